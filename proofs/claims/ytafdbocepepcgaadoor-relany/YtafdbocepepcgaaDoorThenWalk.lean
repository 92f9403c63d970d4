/-
  The statement RelThen's own call returns true, whatever the arguments, and leaves what was there as it was.
-/
import Derived.Test.YtafdbocepepcgaaDoorRSome
import Derived.Test.YtafdbocepepcgaaDoorRRef4
namespace Go.Proofs.YtafdbocepepcgaaDoor
open Go.RowKit
set_option linter.unusedVariables false
set_option linter.unusedSimpArgs false

/-- What a walk of a statement ends in. -/
def Good (w : World) (e : Ending) (w' : World) : Prop := e = .returned (.bool true) ∧ Below w.heap.size w w'
set_option maxHeartbeats 2000000 in
set_option maxRecDepth 100000 in
theorem then_walk (a0 : Option Addr) (l0 c0 : Nat) (b0 : List Nat) (a1 : Option Addr) (l1 c1 : Nat) (b1 : List Nat) (m : Nat) (a3 : Option Addr) (l3 c3 : Nat) (x3 : List Nat) (a4 : Option Addr) (l4 c4 : Nat) (x4 : List Nat) (w : World)
    (hg : 0 < w.heap.size) (hT : Tab w) (h0 : IsBytes w a0 l0 b0) (h1 : IsBytes w a1 l1 b1) (hm : m < 256) (h3 : IsWords w a3 l3 x3) (h4 : IsWords w a4 l4 x4) :
    Calls Tryd.prog 5 #[.slice a0 l0 c0, .slice a1 l1 c1, .int .u8 (m : Nat), .slice a3 l3 c3, .slice a4 l4 c4] w (Good w) := by
  have hTb : Tb w := ⟨hT, hg⟩
  have m0 := h0.2.1
  have m1 := h1.2.1
  have m3 := h3.2.1
  have m4 := h4.2.1
  go_enter Tryd.func5, Tryd.ntmps5
  go_wp2_with fail
  refine (begun2_any w hTb).mono ?_
  rintro e w1 ⟨rfl, hb1⟩
  by_cases q0 : 60 < l0
  · go_wp2
    go_ret
    exact ⟨rfl, hb1⟩
  by_cases q1 : 60 < l1
  · go_wp2
    go_ret
    exact ⟨rfl, hb1⟩
  by_cases q3 : 8 < l3
  · go_wp2
    go_ret
    exact ⟨rfl, hb1⟩
  by_cases q4 : 8 < l4
  · go_wp2
    go_ret
    exact ⟨rfl, hb1⟩
  go_wp2_with fail
  refine (some_any a0 l0 c0 m b0 _ (h0.below hb1) hm (by omega)).mono ?_
  rintro e w2 ⟨xs, a2, c2, hR2, rfl, hx2, hb⟩
  have hb2 := hb1.trans (hb.mono hb1.size)
  clear hb hb1
  go_wp2_with fail
  refine (some_any a1 l1 c1 m b1 _ (h1.below hb2) hm (by omega)).mono ?_
  rintro e w3 ⟨ys, a2', c2', hR3, rfl, hy3, hb⟩
  have hb3 := hb2.trans (hb.mono hb2.size)
  have hx3 := hx2.below hb
  clear hb hb2 hx2
  go_wp2_with fail
  refine (thenR_any _ _ _ _ _ _ xs ys _ hx3 hy3 (hTb.below hb3)).mono ?_
  rintro e w4 ⟨a5, c5, rfl, hz4, hb⟩
  have hb4 := hb3.trans (hb.mono hb3.size)
  have hx4 := hx3.below hb
  have hy4 := hy3.below hb
  clear hb hb3 hx3 hy3
  go_wp2_with fail
  refine (rthen_any _ _ _ _ _ _ xs ys _ hx4 hy4).mono ?_
  rintro e w5 ⟨a6, c6, rfl, hz5, hb⟩
  have hb5 := hb4.trans (hb.mono hb4.size)
  have hz4' := hz4.below hb
  clear hb hb4 hx4 hy4 hz4
  go_wp2_with fail
  refine (rsameR_any _ _ _ _ _ _ _ _ _ hz4' hz5).mono ?_
  rw [decide_eq_true rfl]
  rintro e w6 ⟨rfl, hb⟩
  have hb6 := hb5.trans (hb.mono hb5.size)
  clear hb hb5 hz4' hz5
  go_wp2_with fail
  refine (thenR_any _ _ _ _ _ _ x3 x4 _ (h3.below hb6) (h4.below hb6) (hTb.below hb6)).mono ?_
  rintro e w7 ⟨a7, c7, rfl, hz7, hb⟩
  have hb7 := hb6.trans (hb.mono hb6.size)
  clear hb hb6
  go_wp2_with fail
  refine (rthen_any _ _ _ _ _ _ x3 x4 _ (h3.below hb7) (h4.below hb7)).mono ?_
  rintro e w8 ⟨a8, c8, rfl, hz8, hb⟩
  have hb8 := hb7.trans (hb.mono hb7.size)
  have hz7' := hz7.below hb
  clear hb hb7 hz7
  go_wp2_with fail
  refine (rsameR_any _ _ _ _ _ _ _ _ _ hz7' hz8).mono ?_
  rw [decide_eq_true rfl]
  rintro e w9 ⟨rfl, hb⟩
  have hb9 := hb8.trans (hb.mono hb8.size)
  go_wp2
  go_ret
  exact ⟨rfl, hb9⟩
end Go.Proofs.YtafdbocepepcgaaDoor
