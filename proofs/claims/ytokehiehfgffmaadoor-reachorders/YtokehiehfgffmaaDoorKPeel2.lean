/-
  What the methods of reach.peel answer, as contracts.
-/
import Derived.Test.YtokehiehfgffmaaDoorKPeel
namespace Go.Proofs.YtokehiehfgffmaaDoor
open Go.RowKit
set_option linter.unusedVariables false
set_option linter.unusedSimpArgs false

/-- What is there while things are taken: the receiver at block B. -/
def Pel (w0 : World) (B : Nat) (a : Option Addr) (len cap L : Nat) (vo vd : Value) (r : Nat) (w : World) : Prop :=
  Blk w B 52 #[.slice a len cap, .int .u64 (L : Nat), vo, vd, .int .i64 (r : Nat)] ∧ Below w0.heap.size w0 w ∧ w0.heap.size ≤ B
theorem Pel.below {w0 w w1 : World} {B : Nat} {a : Option Addr} {len cap L : Nat} {vo vd : Value} {r : Nat} (h : Pel w0 B a len cap L vo vd r w) (hb : Below w.heap.size w w1) : Pel w0 B a len cap L vo vd r w1 :=
  ⟨h.1.below hb h.1.lt, h.2.1.trans (hb.mono h.2.1.size), h.2.2⟩
set_option maxHeartbeats 1000000 in
theorem peel_free (w0 w : World) (B : Nat) (a : Option Addr) (len cap L : Nat) (vo vd : Value) (r : Nat) (xs : List Nat) (h : Pel w0 B a len cap L vo vd r w) (hx : IsWords w0 a len xs) (hT : Tb w0) (hL : L < 2 ^ 64) :
    Calls Tryd.prog 71 #[.pointer (some ⟨B, 0, none⟩)] w (Ans (.int .u64 (freeN xs L : Nat)) w) := by
  have c0 : w.cell? ⟨B, 0, none⟩ = some (.slice a len cap) := h.1.cell 0
  have c1 : w.cell? ⟨B, 1, none⟩ = some (.int .u64 (L : Nat)) := h.1.cell 1
  have lB := h.1.lt
  have hx1 := hx.below h.2.1
  have hT1 := hT.below h.2.1
  have e1 : bits .andNot .u64 (L : Nat) (R.intoR xs L : Nat) = (freeN xs L : Nat) := u64_andNot_nat L (R.intoR xs L) hL (intoR_lt hx.2.2.1 _)
  clear h hx hT
  go_enter Tryd.func71, Tryd.ntmps71
  go_wp2
  go_region_with ((go_at_call 36; refine (intoR_any a len cap L xs _ (hx1.drewN 1) (hT1.drewN 1) hL).mono ?_; rintro e w1 ⟨rfl, hb1⟩; have hb1 : Below w.heap.size w w1 := (below_drewN (Below.refl _ _) 1).trans hb1; have k1 := (hb1.cell (p := ⟨B, 1, none⟩) lB).trans c1; have k0 := (hb1.cell (p := ⟨B, 0, none⟩) lB).trans c0))
  all_goals (go_wp2; go_ret; exact ⟨rfl, hb1⟩)
set_option maxHeartbeats 400000 in
theorem peel_more (w0 w : World) (B : Nat) (a : Option Addr) (len cap L : Nat) (vo vd : Value) (r : Nat) (xs : List Nat) (h : Pel w0 B a len cap L vo vd r w) (hx : IsWords w0 a len xs) (hT : Tb w0) (hL : L < 2 ^ 64) :
    Calls Tryd.prog 42 #[.pointer (some ⟨B, 0, none⟩)] w (Ans (.bool (freeN xs L != 0)) w) := by
  have HF := Lib.hid (peel_free w0 w B a len cap L vo vd r xs h hx hT hL)
  have HE : Hid (((freeN xs L : Int) != 0) = (freeN xs L != 0)) := show ((freeN xs L : Int) != 0) = (freeN xs L != 0) by
    rw [Bool.eq_iff_iff, bne_iff_ne, bne_iff_ne]
    omega
  clear h hx hT
  go_enter Tryd.func42, Tryd.ntmps42
  go_wp2_with fail
  refine HF.out.mono ?_
  rintro e w1 ⟨rfl, hb⟩
  go_wp2
  go_ret
  exact ⟨ret_bool HE.out, hb⟩
theorem enters_pmore : Enters 42 := enters_of Tryd.func42 (by kernel_rfl) rfl
theorem enters_pleast : Enters 43 := enters_of Tryd.func43 (by kernel_rfl) rfl
theorem enters_pall : Enters 44 := enters_of Tryd.func44 (by kernel_rfl) rfl

end Go.Proofs.YtokehiehfgffmaaDoor
