/-
  What a page tells of a cas statement, as a contract.
-/
import Derived.Test.YtchokfgffnomoaaDoorSHMode
namespace Go.Proofs.YtchokfgffnomoaaDoor.Lx
open Go.RowKit
open P (EX CO ST)
set_option maxRecDepth 100000
set_option linter.unusedVariables false
set_option linter.unusedSimpArgs false
/-- Its text, but for the margin and the line's end. -/
def casT (md : Int) (rg lc : List UInt8) (ar : List EX) : List UInt8 := (rg ++ ([32, 61, 32, 99, 97, 115, 32] ++ ((P.xM md) ++ ([32] ++ (lc ++ ([32] ++ ((kidT ar 0) ++ ([44, 32] ++ ((kidT ar 1) ++ [59])))))))))
set_option maxHeartbeats 6400000 in
theorem cas_s {B b : Nat} (md : Int) (rg lc : List UInt8) (ar : List EX) (th el : List ST) (hE : ∀ e ∈ ar, ExOk B b e) (m : Int) (l : List UInt8) (v : Value) (w : World) (hv : LS (· < B) w v (.mk 5 md rg lc ar th el)) (h : Pg B w b m l) (hl : l.length + (casT md rg lc ar).length ≤ big) :
    Calls Tryd.prog 108 #[.pointer (some ⟨b, 0, none⟩), v] w (Said B b m (l ++ casT md rg lc ar) (.tuple #[]) w) := by
  unfold LS at hv
  obtain ⟨aa, ca, at', ct, ae, ce, rfl, m1, m2, m3, x1, x2, x3⟩ := hv
  have HX := Lib.hid (show IsXs (· < B) w (.slice aa ar.length ca) ar from ⟨aa, ca, rfl, m1, x1⟩)
  have HE := Lib.hid hE
  have HB := Lib.hid (Blk.new w 68 #[.int .i64 5, .int .i64 md, .string (bs rg), .string (bs lc), .slice aa ar.length ca, .slice at' th.length ct, .slice ae el.length ce])
  have HW := Lib.hid (show Below w.heap.size w (w.alloc (.cells #[.int .i64 5, .int .i64 md, .string (bs rg), .string (bs lc), .slice aa ar.length ca, .slice at' th.length ct, .slice ae el.length ce] 68)) from (Below.refl _ _).alloc (Nat.le_refl _) _)
  have HK := Lib.hid (show Kp B b w _ from Kp.below HW.out h.low)
  have HP := Lib.hid (h.below HW.out)
  have HN := Lib.hid (show w.heap.size ≠ b from by have := h.lt; omega)
  unfold casT at hl
  have HL := Lib.hid hl
  clear hE hl h x1 x2 x3 m1 m2 m3
  go_enter Tryd.func108, Tryd.ntmps108
  go_upto_region 1 with (fail)
  generalize w.alloc (.cells #[.int .i64 5, .int .i64 md, .string (bs rg), .string (bs lc), .slice aa ar.length ca, .slice at' th.length ct, .slice ae el.length ce] 68) = w1 at *
  obtain ⟨s0, s1, s2, s3, s4, s5, s6, _, _, _, _, _, _, _⟩ := seven_free HB.out
  have HS1 := Lib.hid (say_drew (w := w1) _ rfl [bs rg, ⟨#[32, 61, 32, 99, 97, 115, 32]⟩, bs (P.xM md), ⟨#[32]⟩, bs lc, ⟨#[32]⟩] #[.string (bs rg), .string ⟨#[32, 61, 32, 99, 97, 115, 32]⟩, .string (bs (P.xM md)), .string ⟨#[32]⟩, .string (bs lc), .string ⟨#[32]⟩] 6 rfl rfl HP.out (by rw [show cat [bs rg, ⟨#[32, 61, 32, 99, 97, 115, 32]⟩, bs (P.xM md), ⟨#[32]⟩, bs lc, ⟨#[32]⟩] = (rg ++ ([32, 61, 32, 99, 97, 115, 32] ++ ((P.xM md) ++ ([32] ++ (lc ++ [32]))))) from by simp only [cat, List.map_cons, List.map_nil, List.flatten_cons, List.flatten_nil, by_bs, List.append_nil] <;> rfl]; exact (by have h9 := HL.out; simp only [List.length_append, List.length_cons, List.length_nil] at h9 ⊢; unfold big at *; omega)) (by omega))
  rw [show cat [bs rg, ⟨#[32, 61, 32, 99, 97, 115, 32]⟩, bs (P.xM md), ⟨#[32]⟩, bs lc, ⟨#[32]⟩] = (rg ++ ([32, 61, 32, 99, 97, 115, 32] ++ ((P.xM md) ++ ([32] ++ (lc ++ [32]))))) from by simp only [cat, List.map_cons, List.map_nil, List.flatten_cons, List.flatten_nil, by_bs, List.append_nil] <;> rfl] at HS1
  go_cut [13] (fun _ wx => Pg B wx b m (l ++ (rg ++ ([32, 61, 32, 99, 97, 115, 32] ++ ((P.xM md) ++ ([32] ++ (lc ++ [32])))))) ∧ Kp B b w1 wx)
  case first =>
    go_region_with (first
      | (go_at_call 18; (with_reducible refine (mode_is _ _).mono ?_); rintro e w9 ⟨rfl, rfl⟩)
      | (go_at_call 49; (with_reducible refine HS1.out.mono ?_); rintro e w2 ⟨rfl, hp2, hk2⟩))
    all_goals
      go_wp2_with fail
      go_meet
      case rel => exact ⟨hp2, hk2⟩
  generalize wc = w2 at *
  obtain ⟨hp2, hk2⟩ := hcut
  have HP2 := Lib.hid hp2
  have HK2 := Lib.hid (HK.out.trans hk2)
  have HB2 := Lib.hid (hk2.blk _ _ _ (by decide) HN.out HB.out)
  clear hp2 hk2
  obtain ⟨z0, z1, z2, z3, z4, z5, z6, _, _, _, _, _, _, _⟩ := seven_free HB2.out
  have HA2 := Lib.hid (at_x ar 0 0 rfl HE.out m _ (.slice aa ar.length ca) w2 (lowX HK2.out HX.out) HP2.out (by have h9 := HL.out; simp only [List.length_append, List.length_cons, List.length_nil] at h9 ⊢; unfold big at *; omega))
  go_wp2_with fail
  with_reducible refine HA2.out.mono ?_
  rintro e w3 ⟨rfl, hp3, hk3⟩
  have HP3 := Lib.hid hp3
  have HK3 := Lib.hid (HK2.out.trans hk3)
  have HB3 := Lib.hid (hk3.blk _ _ _ (by decide) HN.out HB2.out)
  clear hp3 hk3
  obtain ⟨s0, s1, s2, s3, s4, s5, s6, _, _, _, _, _, _, _⟩ := seven_free HB3.out
  have HS3 := Lib.hid (say_new (w := w3) _ rfl [⟨#[44, 32]⟩] #[.string ⟨#[44, 32]⟩] 1 rfl rfl HP3.out (by rw [show cat [⟨#[44, 32]⟩] = [44, 32] from by simp only [cat, List.map_cons, List.map_nil, List.flatten_cons, List.flatten_nil, by_bs, List.append_nil] <;> rfl]; exact (by have h9 := HL.out; simp only [List.length_append, List.length_cons, List.length_nil] at h9 ⊢; unfold big at *; omega)) (by omega))
  rw [show cat [⟨#[44, 32]⟩] = [44, 32] from by simp only [cat, List.map_cons, List.map_nil, List.flatten_cons, List.flatten_nil, by_bs, List.append_nil] <;> rfl] at HS3
  go_wp2_with fail
  with_reducible refine HS3.out.mono ?_
  rintro e w4 ⟨rfl, hp4, hk4⟩
  have HP4 := Lib.hid hp4
  have HK4 := Lib.hid (HK3.out.trans hk4)
  have HB4 := Lib.hid (hk4.blk _ _ _ (by decide) HN.out HB3.out)
  clear hp4 hk4
  obtain ⟨s0, s1, s2, s3, s4, s5, s6, _, _, _, _, _, _, _⟩ := seven_free HB4.out
  have HA4 := Lib.hid (at_x ar 1 1 rfl HE.out m _ (.slice aa ar.length ca) w4 (lowX HK4.out HX.out) HP4.out (by have h9 := HL.out; simp only [List.length_append, List.length_cons, List.length_nil] at h9 ⊢; unfold big at *; omega))
  go_wp2_with fail
  with_reducible refine HA4.out.mono ?_
  rintro e w5 ⟨rfl, hp5, hk5⟩
  have HP5 := Lib.hid hp5
  have HK5 := Lib.hid (HK4.out.trans hk5)
  have HB5 := Lib.hid (hk5.blk _ _ _ (by decide) HN.out HB4.out)
  clear hp5 hk5
  obtain ⟨s0, s1, s2, s3, s4, s5, s6, _, _, _, _, _, _, _⟩ := seven_free HB5.out
  have HS5 := Lib.hid (say_new (w := w5) _ rfl [⟨#[59]⟩] #[.string ⟨#[59]⟩] 1 rfl rfl HP5.out (by rw [show cat [⟨#[59]⟩] = [59] from by simp only [cat, List.map_cons, List.map_nil, List.flatten_cons, List.flatten_nil, by_bs, List.append_nil] <;> rfl]; exact (by have h9 := HL.out; simp only [List.length_append, List.length_cons, List.length_nil] at h9 ⊢; unfold big at *; omega)) (by omega))
  rw [show cat [⟨#[59]⟩] = [59] from by simp only [cat, List.map_cons, List.map_nil, List.flatten_cons, List.flatten_nil, by_bs, List.append_nil] <;> rfl] at HS5
  go_wp2_with fail
  with_reducible refine HS5.out.mono ?_
  rintro e w6 ⟨rfl, hp6, hk6⟩
  have HP6 := Lib.hid hp6
  have HK6 := Lib.hid (HK5.out.trans hk6)
  have HB6 := Lib.hid (hk6.blk _ _ _ (by decide) HN.out HB5.out)
  clear hp6 hk6
  obtain ⟨s0, s1, s2, s3, s4, s5, s6, _, _, _, _, _, _, _⟩ := seven_free HB6.out
  go_wp2_with fail
  go_end0
  refine ⟨rfl, ?_, HK6.out⟩
  have h9 := HP6.out
  try simp only [List.append_assoc] at h9
  exact h9
end Go.Proofs.YtchokfgffnomoaaDoor.Lx
