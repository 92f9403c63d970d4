/-
  That eval does something: begun.
-/
import Derived.Test.YtlgnagmmljdkiacEVRef
import Derived.Test.YtlgnagmmljdkiacEVSize

namespace Go.Proofs.Ytlgnagmmljdkiac.Lx
open Go.RowKit
open P (EX ev ev2 plI jn evA askD askDs szX szL)
set_option maxRecDepth 100000
set_option linter.unusedVariables false
set_option linter.unusedSimpArgs false

theorem two_newX (w : World) (t1 t2 : TypeId) (c1 c2 : Array Value) :
    Below w.heap.size w ((w.alloc (.cells c1 t1)).alloc (.cells c2 t2)) ∧ Blk ((w.alloc (.cells c1 t1)).alloc (.cells c2 t2)) w.heap.size t1 c1 ∧ Blk ((w.alloc (.cells c1 t1)).alloc (.cells c2 t2)) (w.heap.size + 1) t2 c2 := by
  have h2 := Blk.new (w.alloc (.cells c1 t1)) t2 c2
  rw [show (w.alloc (.cells c1 t1)).heap.size = w.heap.size + 1 by simp] at h2
  exact ⟨((Below.refl _ _).alloc (Nat.le_refl _) _).alloc (by simp) _, (Blk.new w t1 c1).alloc _, h2⟩
def ex10 : EX := .mk 3 0 [] [.mk 1 1 [] [], .mk 2 0 [114] []]
theorem ex10_yes : evA [[114]] [3] 4 ex10 = some 0 := by decide +kernel
theorem ex10_no : evA [] [] 4 ex10 = none := by decide +kernel
theorem w64_small {n : Int} (h : 0 ≤ n) (h' : n ≤ 1000) : W64 n := ⟨by omega, by omega⟩
theorem ex10_wf : wfX ex10 := by
  refine ⟨w64_small (by decide) (by decide), w64_small (by decide) (by decide), by decide, ⟨w64_small (by decide) (by decide), w64_small (by decide) (by decide), by decide, trivial⟩, ⟨w64_small (by decide) (by decide), w64_small (by decide) (by decide), by decide, trivial⟩, trivial⟩
theorem lx10 {w : World} {g : Nat} {t : TypeId} (h : Blk w g t #[.int .i64 1, .int .i64 1, .string ⟨#[]⟩, .slice none 0 0, .int .i64 2, .int .i64 0, .string ⟨#[114]⟩, .slice none 0 0]) : LX (fun _ => True) w (.agg #[.int .i64 3, .int .i64 0, .string ⟨#[]⟩, .slice (some ⟨g, 0, none⟩) 2 2]) ex10 := by
  unfold ex10 LX
  refine ⟨some ⟨g, 0, none⟩, 2, rfl, by decide, .inr ⟨g, 0, rfl, trivial, ?_⟩⟩
  unfold LXs
  refine ⟨⟨_, _, _, _, h.cell 0, h.cell 1, h.cell 2, h.cell 3, ?_⟩, ?_⟩
  · unfold LX
    exact ⟨none, 0, rfl, by decide, .inl rfl⟩
  · unfold LXs
    refine ⟨⟨_, _, _, _, h.cell 4, h.cell 5, h.cell 6, h.cell 7, ?_⟩, trivial⟩
    unfold LX
    exact ⟨none, 0, rfl, by decide, .inl rfl⟩
theorem rv_nil (w : World) : RvIn w none none 0 0 [] [] := ⟨nms_nil _ _, ⟨none, 0, rfl, .inl rfl⟩, by decide, by decide, fun i => w64_small (by simp) (by simp)⟩
theorem rv_one {w : World} {g g' : Nat} {t t' : TypeId} (h : Blk w g t #[.string ⟨#[114]⟩]) (h' : Blk w g' t' #[.int .i64 3]) : RvIn w (some ⟨g, 0, none⟩) (some ⟨g', 0, none⟩) 1 1 [[114]] [3] := by
  refine ⟨⟨_, 1, rfl, .inr ⟨g, 0, rfl, trivial, fun i hi => ?_⟩⟩, ⟨_, 1, rfl, .inr ⟨g', 0, rfl, trivial, fun i hi => ?_⟩⟩, by decide, by decide, fun i => ?_⟩
  · obtain rfl : i = 0 := by simp at hi; omega
    exact h.cell 0
  · obtain rfl : i = 0 := by simp at hi; omega
    exact h'.cell 0
  · rcases i with _ | i
    · exact w64_small (by decide) (by decide)
    · exact w64_small (by simp) (by simp)
theorem begun10_e (w : World) {ar av : Option Addr} {cr cv : Nat} (h : RvIn w ar av cr cv [[114]] [3]) (v : Value) (hv : LX (fun _ => True) w v ex10) : Calls Try.prog 7 #[v, .slice ar 1 cr, .slice av 1 cv, .int .i64 4] w (fun e w' => e = .returned (.tuple #[.int .i64 0, .bool true]) ∧ Below w.heap.size w w') := by
  have hh := evalExpr_any h 4 ex10 v hv ex10_wf
  rw [ex10_yes] at hh
  exact hh
theorem begun10_t (w : World) {ar av : Option Addr} {cr cv : Nat} (h : RvIn w ar av cr cv [[114]] [3]) (v : Value) (hv : LX (fun _ => True) w v ex10) : Calls Try.prog 8 #[v, .slice ar 1 cr, .slice av 1 cv, .int .i64 4] w (fun e w' => e = .returned (.tuple #[.bool false, .bool true]) ∧ Below w.heap.size w w') := by
  have hh := evalTrue_any h 4 ex10 v hv ex10_wf
  rw [ex10_yes] at hh
  exact hh
theorem begun10_n (w : World) (v : Value) (hv : LX (fun _ => True) w v ex10) : Calls Try.prog 7 #[v, .slice none 0 0, .slice none 0 0, .int .i64 4] w (fun e w' => e = .returned (.tuple #[.int .i64 0, .bool false]) ∧ Below w.heap.size w w') := by
  have hh := evalExpr_any (rv_nil w) 4 ex10 v hv ex10_wf
  rw [ex10_no] at hh
  exact hh
set_option maxHeartbeats 6400000 in
theorem begun10_any (w : World) : Calls Try.prog 4 #[] w (BoolTo true w) := by
  go_enter Try.func4, Try.ntmps4
  go_upto_region 2 with (fail)
  obtain ⟨hb1, hx1, hx2⟩ := two_newX w 27 27 #[.int .i64 1, .int .i64 1, .string ⟨#[]⟩, .slice none 0 0, .int .i64 2, .int .i64 0, .string ⟨#[114]⟩, .slice none 0 0] #[.int .i64 3, .int .i64 0, .string ⟨#[]⟩, .slice (some ⟨w.heap.size, 0, none⟩) 2 2]
  have HX1 := Lib.hid hx1
  have HX2 := Lib.hid hx2
  have HB1 := Lib.hid hb1
  have hlx := Lib.hid (lx10 hx1)
  clear hb1 hx1 hx2
  generalize (w.alloc (.cells #[.int .i64 1, .int .i64 1, .string ⟨#[]⟩, .slice none 0 0, .int .i64 2, .int .i64 0, .string ⟨#[114]⟩, .slice none 0 0] 27)).alloc (.cells #[.int .i64 3, .int .i64 0, .string ⟨#[]⟩, .slice (some ⟨w.heap.size, 0, none⟩) 2 2] 27) = w1 at *
  obtain ⟨hb2, hn2, hi2⟩ := two_newX w1 9 3 #[.string ⟨#[114]⟩] #[.int .i64 3]
  have HE := Lib.hid (begun10_e _ (rv_one hn2 hi2) _ (hlx.out.low hb2))
  have HB2 := Lib.hid hb2
  obtain ⟨s0, s1, s2, s3, _, _, _, _⟩ := four_free HX2.out
  clear hb2 hn2 hi2
  go_wp2_with fail
  with_reducible refine HE.out.mono ?_
  rintro e w2 ⟨rfl, hb3⟩
  have HB3 := Lib.hid (HB2.out.trans (hb3.mono HB2.out.size))
  clear s0 s1 s2 s3 hb3 HE HB2
  have hlx3 := Lib.hid (hlx.out.low HB3.out)
  have HB3w := Lib.hid (HB1.out.trans (HB3.out.mono HB1.out.size))
  obtain ⟨s0, s1, s2, s3, _, _, _, _⟩ := four_free (HX2.out.live' HB3.out)
  have HE := Lib.hid (begun10_n w2 _ hlx3.out)
  go_wp2_with fail
  with_reducible refine HE.out.mono ?_
  rintro e w3 ⟨rfl, hb4⟩
  have HB4 := Lib.hid (HB3.out.trans (hb4.mono HB3.out.size))
  have HB4w := Lib.hid (HB3w.out.trans (hb4.mono HB3w.out.size))
  clear s0 s1 s2 s3 hb4 HE
  have hlx4 := Lib.hid (hlx.out.low HB4.out)
  obtain ⟨hb2, hn2, hi2⟩ := two_newX w3 9 3 #[.string ⟨#[114]⟩] #[.int .i64 3]
  have HE := Lib.hid (begun10_t _ (rv_one hn2 hi2) _ (hlx4.out.low hb2))
  have HB2 := Lib.hid hb2
  obtain ⟨s0, s1, s2, s3, _, _, _, _⟩ := four_free (HX2.out.live' HB4.out)
  clear hb2 hn2 hi2
  go_wp2_with fail
  with_reducible refine HE.out.mono ?_
  rintro e w4 ⟨rfl, hb5⟩
  have HB5 := Lib.hid (HB2.out.trans (hb5.mono HB2.out.size))
  clear s0 s1 s2 s3 hb5
  go_wp2_with fail
  go_ret
  exact ⟨rfl, HB4w.out.trans (HB5.out.mono HB4w.out.size)⟩
end Go.Proofs.Ytlgnagmmljdkiac.Lx
