/-
  The statement RelRules's own call returns true, whatever the arguments, and leaves what was there as it was.
-/
import Derived.Test.YtafdbocepepcgaaDoorRAlg
import Derived.Test.YtafdbocepepcgaaDoorThenWalk
namespace Go.Proofs.YtafdbocepepcgaaDoor
open Go.RowKit
set_option linter.unusedVariables false
set_option linter.unusedSimpArgs false

/-- What a round of the list of things and themselves leaves. -/
def DiagR (w0 : World) (n : Nat) (v k : Value) (w : World) : Prop :=
  ∃ j : Nat, j ≤ n ∧ k = .int .i64 j ∧ w.ownsRow w0.heap.size 28 2 v (diag j).length (flat (diag j)) ∧ Below w0.heap.size w0 w
theorem diagR_next {w0 w w1 : World} {n j : Nat} {v v' : Value} (hj : j < n) (hown : w.ownsRow w0.heap.size 28 2 v (diag j).length (flat (diag j))) (hb : Below w0.heap.size w0 w)
    (hown1 : w1.ownsRow w0.heap.size 28 2 v' ((diag j).length + 1) (flat (diag j) ++ [.int .i64 (j : Nat), .int .i64 (j : Nat)])) (hg : (w.alloc (.cells #[.int .i64 (j : Nat), .int .i64 (j : Nat)] 28)).grownBy w1 v.ownBlock) :
    DiagR w0 n v' (.int .i64 ((j : Int) + 1)) w1 := by
  refine ⟨j + 1, by omega, by go_num, ?_, ?_⟩
  · rw [← flat_snoc] at hown1
    have e : diag j ++ [((j : Int), (j : Int))] = diag (j + 1) := diag_snoc j
    rw [e] at hown1
    rw [diag_len] at hown1 ⊢
    exact hown1
  · exact (hb.alloc hb.size _).grown hg (by have := hb.size; simp; omega) (fun k hk => (hown.lt k hk).1)
theorem diag_own {w : World} {base j : Nat} {v : Value} (h : w.ownsRow base 28 2 v (diag j).length (flat (diag j))) (hj : j ≤ 20) : ∃ a cap, v = .slice a (diag j).length cap ∧ IsPairs w a (diag j).length (diag j) := pairs_of_own h (by rw [diag_len]; omega)
set_option maxHeartbeats 4000000 in
set_option maxRecDepth 100000 in
theorem rules_walk (a0 : Option Addr) (l0 c0 : Nat) (b0 : List Nat) (a1 : Option Addr) (l1 c1 : Nat) (b1 : List Nat) (a2 : Option Addr) (l2 c2 : Nat) (b2 : List Nat) (m : Nat) (w : World)
    (hg : 0 < w.heap.size) (hT : Tab w) (h0 : IsBytes w a0 l0 b0) (h1 : IsBytes w a1 l1 b1) (h2 : IsBytes w a2 l2 b2) (hm : m < 256) :
    Calls Tryd.prog 6 #[.slice a0 l0 c0, .slice a1 l1 c1, .slice a2 l2 c2, .int .u8 (m : Nat)] w (Good w) := by
  have hTb : Tb w := ⟨hT, hg⟩
  have m0 := h0.2.1
  have m1 := h1.2.1
  have m2 := h2.2.1
  obtain ⟨n, hn⟩ : ∃ n, n = m % 20 + 1 := ⟨_, rfl⟩
  have hn20 : n ≤ 20 := by omega
  have hn1 : 1 ≤ n := by omega
  have HN := Lib.hid hn
  obtain ⟨i0, hi, hz0, hz1, hz2⟩ := info_parts Tryd.infoP
  have HI := Lib.hid hi
  have HZ0 := Lib.hid hz0
  have HZ1 := Lib.hid hz1
  have HZ2 := Lib.hid hz2
  clear hn hi hz0 hz1 hz2
  go_enter Tryd.func6, Tryd.ntmps6
  go_wp2_with fail
  refine (begun2_any w hTb).mono ?_
  rintro e w1 ⟨rfl, hB⟩
  by_cases q0 : 40 < l0
  · go_wp2
    go_ret
    exact ⟨rfl, hB⟩
  by_cases q1 : 40 < l1
  · go_wp2
    go_ret
    exact ⟨rfl, hB⟩
  by_cases q2 : 40 < l2
  · go_wp2
    go_ret
    exact ⟨rfl, hB⟩
  go_wp2_with fail
  refine (some_n a0 l0 c0 m n b0 _ HN.out (h0.below hB) hm (by omega)).mono ?_
  rintro e w2 ⟨x, ax, cx, hRx, rfl, hx, hb⟩
  replace hB := hB.trans (hb.mono hB.size)
  clear hb
  go_wp2_with fail
  refine (some_n a1 l1 c1 m n b1 _ HN.out (h1.below hB) hm (by omega)).mono ?_
  rintro e w3 ⟨y, ay, cy, hRy, rfl, hy, hb⟩
  replace hB := hB.trans (hb.mono hB.size)
  replace hx := hx.below hb
  clear hb
  go_wp2_with fail
  refine (some_n a2 l2 c2 m n b2 _ HN.out (h2.below hB) hm (by omega)).mono ?_
  rintro e w4 ⟨z, az, cz, hRz, rfl, hz, hb⟩
  replace hB := hB.trans (hb.mono hB.size)
  replace hx := hx.below hb
  replace hy := hy.below hb
  clear hb
  go_wp2_with fail
  refine (new_gives (n : Nat) _).mono ?_
  rintro e w5 ⟨anone, cnone, rfl, hnone, hb⟩
  replace hB := hB.trans (hb.mono hB.size)
  replace hx := hx.below hb
  replace hy := hy.below hb
  replace hz := hz.below hb
  clear hb
  have hn64 : n ≤ 64 := by omega
  rw [new_zero n hn64] at hnone ⊢
  rw [List.length_replicate] at hnone ⊢
  go_wp2
  go_loopw [13, 14] (fun v k wr => DiagR w5 n v k wr) (fun _ k _ => n - (intOf k).toNat)
  case atStart => exact ⟨0, Nat.zero_le _, rfl, World.ownsRow_nil _ _ _ _, Below.refl _ _⟩
  case round =>
    obtain ⟨j, hj, rfl, hown, hbr⟩ := hrel
    have hszr := hbr.size
    by_cases hjl : j < n
    · have hlen := diag_len j
      go_wp2_with (at_builtin; refine wpList_append_own _ rfl (.tmp 50) (.tmp 54) 25 rfl w5.heap.size 28 i0 (.agg #[.int .i64 0, .int .i64 0]) 2 16 Tryd.underlying25 HI.out HZ0.out HZ1.out HZ2.out rfl (by decide) _ _ _ rfl (hown.alloc _) ⟨wr.heap.size, 0, none⟩ 1 1 [.int .i64 (j : Nat), .int .i64 (j : Nat)] rfl rfl (cell_two_new _ _ _ _) (by intro u hu; simp at hu; subst hu; rfl) (by unfold maxLen; omega) (by omega) (by simp; omega) ?_; intro v' w2' hown2 hgrow2 _)
      go_roundw
      case rel => exact diagR_next hjl hown hbr hown2 hgrow2
      case measure => simp [intOf]; omega
    · obtain rfl : j = n := by omega
      obtain ⟨ad, cd, rfl, hd⟩ := diag_own hown hn20
      rw [diag_len] at hd ⊢
      replace hB := hB.trans (hbr.mono hB.size)
      replace hx := hx.below hbr
      replace hy := hy.below hbr
      replace hz := hz.below hbr
      replace hnone := hnone.below hbr
      have HOK := Lib.hid (diag_ok j hn64)
      have HID := Lib.hid (diag_rel j hn64)
      clear hbr hown
      go_wp2_with fail
      refine (from_any (j : Nat) _ _ _ (diag j) _ hd).mono ?_
      rintro e w21 ⟨aid, cid, rfl, hid, hb⟩
      rw [HOK.out, HID.out.1]
      rw [HID.out.1] at hid
      replace hB := hB.trans (hb.mono hB.size)
      replace hx := hx.below hb
      replace hy := hy.below hb
      replace hz := hz.below hb
      replace hnone := hnone.below hb
      clear hb hd
      have E1 := Lib.hid (then_assoc hRx hRy hRz)
      have E2 := Lib.hid (back_then hRx hRy)
      have E3 := Lib.hid (then_or hRx hRy hRz)
      have E4 : Hid (R.countR (R.thenR x (List.replicate j 0)) = 0) := show _ = _ by rw [then_zero hRx, count_zero]
      have E5 := Lib.hid (then_diag hRx)
      have E6 := Lib.hid (diag_then hRx)
      go_wp2_with fail
      refine (thenR_any _ _ _ _ _ _ x y _ hx hy (hTb.below hB)).mono ?_
      rintro e w22 ⟨at1, ct1, rfl, ht1, hb⟩
      replace hB := hB.trans (hb.mono hB.size)
      replace hx := hx.below hb
      replace hy := hy.below hb
      replace hz := hz.below hb
      replace hnone := hnone.below hb
      replace hid := hid.below hb
      clear hb
      go_wp2_with fail
      refine (thenR_any _ _ _ _ _ _ _ z _ ht1 hz (hTb.below hB)).mono ?_
      rintro e w23 ⟨at2, ct2, rfl, ht2, hb⟩
      replace hB := hB.trans (hb.mono hB.size)
      replace hx := hx.below hb
      replace hy := hy.below hb
      replace hz := hz.below hb
      replace hnone := hnone.below hb
      replace hid := hid.below hb
      replace ht1 := ht1.below hb
      clear hb
      clear ht1
      go_wp2_with fail
      refine (thenR_any _ _ _ _ _ _ y z _ hy hz (hTb.below hB)).mono ?_
      rintro e w24 ⟨at3, ct3, rfl, ht3, hb⟩
      replace hB := hB.trans (hb.mono hB.size)
      replace hx := hx.below hb
      replace hy := hy.below hb
      replace hz := hz.below hb
      replace hnone := hnone.below hb
      replace hid := hid.below hb
      replace ht2 := ht2.below hb
      clear hb
      go_wp2_with fail
      refine (thenR_any _ _ _ _ _ _ x _ _ hx ht3 (hTb.below hB)).mono ?_
      rintro e w25 ⟨at4, ct4, rfl, ht4, hb⟩
      replace hB := hB.trans (hb.mono hB.size)
      replace hx := hx.below hb
      replace hy := hy.below hb
      replace hz := hz.below hb
      replace hnone := hnone.below hb
      replace hid := hid.below hb
      replace ht2 := ht2.below hb
      replace ht3 := ht3.below hb
      clear hb
      clear ht3
      go_wp2_with fail
      refine (sameR_any _ _ _ _ _ _ _ _ _ ht2 ht4).mono ?_
      rw [decide_eq_true E1.out]
      rintro e w26 ⟨rfl, hb⟩
      replace hB := hB.trans (hb.mono hB.size)
      replace hx := hx.below hb
      replace hy := hy.below hb
      replace hz := hz.below hb
      replace hnone := hnone.below hb
      replace hid := hid.below hb
      replace ht2 := ht2.below hb
      replace ht4 := ht4.below hb
      clear hb
      clear ht2
      clear ht4
      go_wp2_with fail
      refine (thenR_any _ _ _ _ _ _ x y _ hx hy (hTb.below hB)).mono ?_
      rintro e w27 ⟨au1, cu1, rfl, hu1, hb⟩
      replace hB := hB.trans (hb.mono hB.size)
      replace hx := hx.below hb
      replace hy := hy.below hb
      replace hz := hz.below hb
      replace hnone := hnone.below hb
      replace hid := hid.below hb
      clear hb
      go_wp2_with fail
      refine (backR_any _ _ _ _ _ hu1 (hTb.below hB)).mono ?_
      rintro e w28 ⟨au2, cu2, rfl, hu2, hb⟩
      replace hB := hB.trans (hb.mono hB.size)
      replace hx := hx.below hb
      replace hy := hy.below hb
      replace hz := hz.below hb
      replace hnone := hnone.below hb
      replace hid := hid.below hb
      replace hu1 := hu1.below hb
      clear hb
      clear hu1
      go_wp2_with fail
      refine (backR_any _ _ _ y _ hy (hTb.below hB)).mono ?_
      rintro e w29 ⟨au3, cu3, rfl, hu3, hb⟩
      replace hB := hB.trans (hb.mono hB.size)
      replace hx := hx.below hb
      replace hy := hy.below hb
      replace hz := hz.below hb
      replace hnone := hnone.below hb
      replace hid := hid.below hb
      replace hu2 := hu2.below hb
      clear hb
      go_wp2_with fail
      refine (backR_any _ _ _ x _ hx (hTb.below hB)).mono ?_
      rintro e w30 ⟨au4, cu4, rfl, hu4, hb⟩
      replace hB := hB.trans (hb.mono hB.size)
      replace hx := hx.below hb
      replace hy := hy.below hb
      replace hz := hz.below hb
      replace hnone := hnone.below hb
      replace hid := hid.below hb
      replace hu2 := hu2.below hb
      replace hu3 := hu3.below hb
      clear hb
      go_wp2_with fail
      refine (thenR_any _ _ _ _ _ _ _ _ _ hu3 hu4 (hTb.below hB)).mono ?_
      rintro e w31 ⟨au5, cu5, rfl, hu5, hb⟩
      replace hB := hB.trans (hb.mono hB.size)
      replace hx := hx.below hb
      replace hy := hy.below hb
      replace hz := hz.below hb
      replace hnone := hnone.below hb
      replace hid := hid.below hb
      replace hu2 := hu2.below hb
      replace hu3 := hu3.below hb
      replace hu4 := hu4.below hb
      clear hb
      clear hu3
      clear hu4
      go_wp2_with fail
      refine (sameR_any _ _ _ _ _ _ _ _ _ hu2 hu5).mono ?_
      rw [decide_eq_true E2.out]
      rintro e w32 ⟨rfl, hb⟩
      replace hB := hB.trans (hb.mono hB.size)
      replace hx := hx.below hb
      replace hy := hy.below hb
      replace hz := hz.below hb
      replace hnone := hnone.below hb
      replace hid := hid.below hb
      replace hu2 := hu2.below hb
      replace hu5 := hu5.below hb
      clear hb
      clear hu2
      clear hu5
      go_wp2_with fail
      refine (orR_any _ _ _ _ _ _ y z _ hy hz (hTb.below hB)).mono ?_
      rintro e w33 ⟨av1, cv1, rfl, hv1, hb⟩
      replace hB := hB.trans (hb.mono hB.size)
      replace hx := hx.below hb
      replace hy := hy.below hb
      replace hz := hz.below hb
      replace hnone := hnone.below hb
      replace hid := hid.below hb
      clear hb
      go_wp2_with fail
      refine (thenR_any _ _ _ _ _ _ x _ _ hx hv1 (hTb.below hB)).mono ?_
      rintro e w34 ⟨av2, cv2, rfl, hv2, hb⟩
      replace hB := hB.trans (hb.mono hB.size)
      replace hx := hx.below hb
      replace hy := hy.below hb
      replace hz := hz.below hb
      replace hnone := hnone.below hb
      replace hid := hid.below hb
      replace hv1 := hv1.below hb
      clear hb
      clear hv1
      go_wp2_with fail
      refine (thenR_any _ _ _ _ _ _ x y _ hx hy (hTb.below hB)).mono ?_
      rintro e w35 ⟨av3, cv3, rfl, hv3, hb⟩
      replace hB := hB.trans (hb.mono hB.size)
      replace hx := hx.below hb
      replace hy := hy.below hb
      replace hz := hz.below hb
      replace hnone := hnone.below hb
      replace hid := hid.below hb
      replace hv2 := hv2.below hb
      clear hb
      go_wp2_with fail
      refine (thenR_any _ _ _ _ _ _ x z _ hx hz (hTb.below hB)).mono ?_
      rintro e w36 ⟨av4, cv4, rfl, hv4, hb⟩
      replace hB := hB.trans (hb.mono hB.size)
      replace hx := hx.below hb
      replace hy := hy.below hb
      replace hz := hz.below hb
      replace hnone := hnone.below hb
      replace hid := hid.below hb
      replace hv2 := hv2.below hb
      replace hv3 := hv3.below hb
      clear hb
      go_wp2_with fail
      refine (orR_any _ _ _ _ _ _ _ _ _ hv3 hv4 (hTb.below hB)).mono ?_
      rintro e w37 ⟨av5, cv5, rfl, hv5, hb⟩
      replace hB := hB.trans (hb.mono hB.size)
      replace hx := hx.below hb
      replace hy := hy.below hb
      replace hz := hz.below hb
      replace hnone := hnone.below hb
      replace hid := hid.below hb
      replace hv2 := hv2.below hb
      replace hv3 := hv3.below hb
      replace hv4 := hv4.below hb
      clear hb
      clear hv3
      clear hv4
      go_wp2_with fail
      refine (sameR_any _ _ _ _ _ _ _ _ _ hv2 hv5).mono ?_
      rw [decide_eq_true E3.out]
      rintro e w38 ⟨rfl, hb⟩
      replace hB := hB.trans (hb.mono hB.size)
      replace hx := hx.below hb
      replace hy := hy.below hb
      replace hz := hz.below hb
      replace hnone := hnone.below hb
      replace hid := hid.below hb
      replace hv2 := hv2.below hb
      replace hv5 := hv5.below hb
      clear hb
      clear hv2
      clear hv5
      go_wp2_with fail
      refine (thenR_any _ _ _ _ _ _ x _ _ hx hnone (hTb.below hB)).mono ?_
      rintro e w39 ⟨ap1, cp1, rfl, hp1, hb⟩
      replace hB := hB.trans (hb.mono hB.size)
      replace hx := hx.below hb
      replace hy := hy.below hb
      replace hz := hz.below hb
      replace hnone := hnone.below hb
      replace hid := hid.below hb
      clear hb
      go_wp2_with fail
      refine (countR_any _ _ _ _ _ hp1 (hTb.below hB)).mono ?_
      rw [E4.out]
      rintro e w40 ⟨rfl, hb⟩
      replace hB := hB.trans (hb.mono hB.size)
      replace hx := hx.below hb
      replace hy := hy.below hb
      replace hz := hz.below hb
      replace hnone := hnone.below hb
      replace hid := hid.below hb
      replace hp1 := hp1.below hb
      clear hb
      clear hp1
      go_wp2_with fail
      refine (thenR_any _ _ _ _ _ _ x _ _ hx hid (hTb.below hB)).mono ?_
      rintro e w41 ⟨ap2, cp2, rfl, hp2, hb⟩
      replace hB := hB.trans (hb.mono hB.size)
      replace hx := hx.below hb
      replace hy := hy.below hb
      replace hz := hz.below hb
      replace hnone := hnone.below hb
      replace hid := hid.below hb
      clear hb
      go_wp2_with fail
      refine (sameR_any _ _ _ _ _ _ _ x _ hp2 hx).mono ?_
      rw [decide_eq_true E5.out]
      rintro e w42 ⟨rfl, hb⟩
      replace hB := hB.trans (hb.mono hB.size)
      replace hx := hx.below hb
      replace hy := hy.below hb
      replace hz := hz.below hb
      replace hnone := hnone.below hb
      replace hid := hid.below hb
      replace hp2 := hp2.below hb
      clear hb
      clear hp2
      go_wp2_with fail
      refine (thenR_any _ _ _ _ _ _ _ x _ hid hx (hTb.below hB)).mono ?_
      rintro e w43 ⟨ap3, cp3, rfl, hp3, hb⟩
      replace hB := hB.trans (hb.mono hB.size)
      replace hx := hx.below hb
      replace hy := hy.below hb
      replace hz := hz.below hb
      replace hnone := hnone.below hb
      replace hid := hid.below hb
      clear hb
      go_wp2_with fail
      refine (sameR_any _ _ _ _ _ _ _ x _ hp3 hx).mono ?_
      rw [decide_eq_true E6.out]
      rintro e w44 ⟨rfl, hb⟩
      replace hB := hB.trans (hb.mono hB.size)
      replace hx := hx.below hb
      replace hy := hy.below hb
      replace hz := hz.below hb
      replace hnone := hnone.below hb
      replace hid := hid.below hb
      replace hp3 := hp3.below hb
      clear hb
      clear hp3
      go_wp2
      go_ret
      exact ⟨rfl, hB⟩
end Go.Proofs.YtafdbocepepcgaaDoor
