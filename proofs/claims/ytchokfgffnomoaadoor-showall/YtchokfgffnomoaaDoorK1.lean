import Derived.Test.YtchokfgffnomoaaDoorSHW
import Derived.Test.YtchokfgffnomoaaDoorSHX
import Derived.Test.YtchokfgffnomoaaDoorPB
import Derived.ProofKit
import Derived.OpenShut
import Derived.ChangeOld
import Derived.ChangeArms
import Derived.SizedLaws
import Derived.Test.YtchokfgffnomoaaDoorLDig
import Derived.Test.YtchokfgffnomoaaDoorXMath
import Derived.IntWalk
import Derived.Test.YtchokfgffnomoaaDoorPA
import Derived.Test.YtchokfgffnomoaaDoorPSame

/-
  That show does something: begun.
-/
namespace Go.Proofs.YtchokfgffnomoaaDoor.P
theorem zero_i64 : Lx.I64 0 := by constructor <;> omega
end Go.Proofs.YtchokfgffnomoaaDoor.P
namespace Go.Proofs.YtchokfgffnomoaaDoor.Lx
open Go.RowKit
open P (EX CO ST PG)
set_option maxRecDepth 100000
set_option linter.unusedVariables false
set_option linter.unusedSimpArgs false
theorem two_new (w : World) (t1 t2 : TypeId) (c1 c2 : Array Value) : Below w.heap.size w ((w.alloc (.cells c1 t1)).alloc (.cells c2 t2)) ∧ Blk ((w.alloc (.cells c1 t1)).alloc (.cells c2 t2)) w.heap.size t1 c1 ∧ Blk ((w.alloc (.cells c1 t1)).alloc (.cells c2 t2)) (w.heap.size + 1) t2 c2 ∧ w.heap.size + 1 < ((w.alloc (.cells c1 t1)).alloc (.cells c2 t2)).heap.size := by
  have h2 := Blk.new (w.alloc (.cells c1 t1)) t2 c2
  rw [show (w.alloc (.cells c1 t1)).heap.size = w.heap.size + 1 by simp] at h2
  exact ⟨((Below.refl _ _).alloc (Nat.le_refl _) _).alloc (by simp) _, (Blk.new w t1 c1).alloc _, h2, h2.lt⟩
theorem four_new (w : World) (t1 t2 t3 t4 : TypeId) (c1 c2 c3 c4 : Array Value) :
    Below w.heap.size w ((((w.alloc (.cells c1 t1)).alloc (.cells c2 t2)).alloc (.cells c3 t3)).alloc (.cells c4 t4)) ∧ Blk ((((w.alloc (.cells c1 t1)).alloc (.cells c2 t2)).alloc (.cells c3 t3)).alloc (.cells c4 t4)) w.heap.size t1 c1 ∧ Blk ((((w.alloc (.cells c1 t1)).alloc (.cells c2 t2)).alloc (.cells c3 t3)).alloc (.cells c4 t4)) (w.heap.size + 1) t2 c2 ∧ Blk ((((w.alloc (.cells c1 t1)).alloc (.cells c2 t2)).alloc (.cells c3 t3)).alloc (.cells c4 t4)) (w.heap.size + 1 + 1) t3 c3 ∧ Blk ((((w.alloc (.cells c1 t1)).alloc (.cells c2 t2)).alloc (.cells c3 t3)).alloc (.cells c4 t4)) (w.heap.size + 1 + 1 + 1) t4 c4 := by
  have h2 := Blk.new (w.alloc (.cells c1 t1)) t2 c2
  rw [show (w.alloc (.cells c1 t1)).heap.size = w.heap.size + 1 by simp] at h2
  have h3 := Blk.new ((w.alloc (.cells c1 t1)).alloc (.cells c2 t2)) t3 c3
  rw [show ((w.alloc (.cells c1 t1)).alloc (.cells c2 t2)).heap.size = w.heap.size + 1 + 1 by simp] at h3
  have h4 := Blk.new (((w.alloc (.cells c1 t1)).alloc (.cells c2 t2)).alloc (.cells c3 t3)) t4 c4
  rw [show (((w.alloc (.cells c1 t1)).alloc (.cells c2 t2)).alloc (.cells c3 t3)).heap.size = w.heap.size + 1 + 1 + 1 by simp] at h4
  exact ⟨((((Below.refl _ _).alloc (Nat.le_refl _) _).alloc (by simp) _).alloc (by simp; omega) _).alloc (by simp; omega) _, (((Blk.new w t1 c1).alloc _).alloc _).alloc _, (h2.alloc _).alloc _, h3.alloc _, h4⟩
def ex8 : EX := .mk 3 0 [] [.mk 2 0 [114] [], .mk 1 1 [] []]
def co8 : CO := .mk 3 0 [] 0 [.mk 2 1 [114] 0 []]
def pg8 : PG := ⟨[97], 2, [([120], 0)], [[.mk 6 4 [] [] [] [] []]], 1, co8⟩
theorem one_i64 : I64 1 := by constructor <;> omega
theorem ex8_text : P.xE ex8 = [40, 114, 32, 43, 32, 49, 41] := by
  have h1 : P.xN 1 = [49] := (P.xN_nat 1).trans (L.dec_small (by decide))
  simp only [ex8, P.xE, P.xEs, P.midE, h1]
  rfl
theorem co8_text : P.xC co8 = [110, 111, 116, 32, 49, 58, 114, 32, 61, 61, 32, 48] := by
  have h1 : P.xN 1 = [49] := (P.xN_nat 1).trans (L.dec_small (by decide))
  have h0 : P.xN 0 = [48] := (P.xN_nat 0).trans (L.dec_small (by decide))
  simp only [co8, P.xC, P.xCs, h1, h0]
  rfl
theorem pg8_text : P.xP pg8 = [108, 105, 116, 109, 117, 115, 32, 97, 32, 118, 97, 108, 117, 101, 115, 32, 50, 10, 105, 110, 105, 116, 32, 120, 32, 48, 10, 116, 104, 114, 101, 97, 100, 32, 123, 10, 32, 32, 102, 101, 110, 99, 101, 32, 115, 99, 59, 10, 125, 10, 101, 120, 105, 115, 116, 115, 32, 110, 111, 116, 32, 49, 58, 114, 32, 61, 61, 32, 48, 10] := by
  have h1 : P.xN 1 = [49] := (P.xN_nat 1).trans (L.dec_small (by decide))
  have h0 : P.xN 0 = [48] := (P.xN_nat 0).trans (L.dec_small (by decide))
  have h2 : P.xN 2 = [50] := (P.xN_nat 2).trans (L.dec_small (by decide))
  simp only [pg8, co8, P.xP, P.xI, P.xC, P.xCs, h1, h0, h2, List.map_cons, List.map_nil]
  rfl
theorem ok_ex8 : okX ex8 := by
  exact ⟨P.zero_i64, ⟨P.zero_i64, trivial⟩, ⟨one_i64, trivial⟩, trivial⟩
theorem ok_co8 : okC co8 := by
  exact ⟨⟨P.zero_i64, P.zero_i64⟩, ⟨⟨one_i64, P.zero_i64⟩, trivial⟩, trivial⟩
theorem ok_pg8 : OkP pg8 := by
  refine ⟨by constructor <;> decide, fun c hc => ?_, fun l hl => ?_, ok_co8⟩
  · rw [List.mem_singleton.1 hc]
    constructor <;> decide
  · rw [List.mem_singleton.1 hl]
    exact ⟨⟨trivial, trivial, trivial⟩, trivial⟩
theorem lx8 {w : World} {g : Nat} {t : TypeId} (h : Blk w g t #[.int .i64 2, .int .i64 0, .string ⟨#[114]⟩, .slice none 0 0, .int .i64 1, .int .i64 1, .string ⟨#[]⟩, .slice none 0 0]) : LX (fun _ => True) w (.agg #[.int .i64 3, .int .i64 0, .string ⟨#[]⟩, .slice (some ⟨g, 0, none⟩) 2 2]) ex8 := by
  unfold ex8 LX
  refine ⟨some ⟨g, 0, none⟩, 2, rfl, by decide, .inr ⟨g, 0, rfl, trivial, ?_⟩⟩
  unfold LXs
  refine ⟨⟨_, _, _, _, h.cell 0, h.cell 1, h.cell 2, h.cell 3, ?_⟩, ?_⟩
  · unfold LX
    exact ⟨none, 0, rfl, by decide, .inl rfl⟩
  · unfold LXs
    refine ⟨⟨_, _, _, _, h.cell 4, h.cell 5, h.cell 6, h.cell 7, ?_⟩, trivial⟩
    unfold LX
    exact ⟨none, 0, rfl, by decide, .inl rfl⟩
theorem lc8 {w : World} {g : Nat} {t : TypeId} (h : Blk w g t #[.int .i64 2, .int .i64 1, .string ⟨#[114]⟩, .int .i64 0, .slice none 0 0]) : LC (fun _ => True) w (.agg #[.int .i64 3, .int .i64 0, .string ⟨#[]⟩, .int .i64 0, .slice (some ⟨g, 0, none⟩) 1 1]) co8 := by
  unfold co8 LC
  refine ⟨some ⟨g, 0, none⟩, 1, rfl, by decide, .inr ⟨g, 0, rfl, trivial, ?_⟩⟩
  unfold LCs
  refine ⟨⟨_, _, _, _, _, h.cell 0, h.cell 1, h.cell 2, h.cell 3, h.cell 4, ?_⟩, trivial⟩
  unfold LC
  exact ⟨none, 0, rfl, by decide, .inl rfl⟩
theorem lp8 {w : World} {gi gs gt gc : Nat} {ti ts tt tc : TypeId} (hi : Blk w gi ti #[.string ⟨#[120]⟩, .int .i64 0]) (hs : Blk w gs ts #[.int .i64 6, .int .i64 4, .string ⟨#[]⟩, .string ⟨#[]⟩, .slice none 0 0, .slice none 0 0, .slice none 0 0]) (ht : Blk w gt tt #[.slice (some ⟨gs, 0, none⟩) 1 1]) (hc : Blk w gc tc #[.int .i64 2, .int .i64 1, .string ⟨#[114]⟩, .int .i64 0, .slice none 0 0]) : LPg (fun _ => True) w (.agg #[.string ⟨#[97]⟩, .int .i64 2, .slice (some ⟨gi, 0, none⟩) 1 1, .slice (some ⟨gt, 0, none⟩) 1 1, .int .i64 1, .int .i64 3, .int .i64 0, .string ⟨#[]⟩, .int .i64 0, .slice (some ⟨gc, 0, none⟩) 1 1]) pg8 := by
  refine ⟨_, _, _, _, _, _, _, _, _, rfl, ⟨some ⟨gi, 0, none⟩, 1, rfl, by decide, .inr ⟨gi, 0, rfl, trivial, ?_⟩⟩, ⟨some ⟨gt, 0, none⟩, 1, rfl, by decide, .inr ⟨gt, 0, rfl, trivial, ?_⟩⟩, lc8 hc⟩
  · unfold LEs
    exact ⟨⟨hi.cell 0, hi.cell 1⟩, trivial⟩
  · unfold LTs
    refine ⟨⟨_, ht.cell 0, some ⟨gs, 0, none⟩, 1, rfl, by decide, .inr ⟨gs, 0, rfl, trivial, ?_⟩⟩, trivial⟩
    unfold LSs
    refine ⟨⟨_, _, _, _, _, _, _, hs.cell 0, hs.cell 1, hs.cell 2, hs.cell 3, hs.cell 4, hs.cell 5, hs.cell 6, ?_⟩, trivial⟩
    unfold LS
    exact ⟨none, 0, none, 0, none, 0, rfl, by decide, by decide, by decide, .inl rfl, .inl rfl, .inl rfl⟩
theorem show_e8 (Q : Nat → Prop) (v : Value) (w : World) (hv : LX Q w v ex8) (ht : Tb w.heap.size w) : Calls Tryd.prog 14 #[v] w (fun e w' => e = .returned (.string ⟨#[40, 114, 32, 43, 32, 49, 41]⟩) ∧ Below w.heap.size w w') := by
  have h := show_expr ex8 ok_ex8 (by rw [ex8_text]; simp) (by rw [ex8_text]; decide) v w hv ht
  rw [ex8_text] at h
  exact h
theorem show_c8 (Q : Nat → Prop) (v : Value) (w : World) (hv : LC Q w v co8) (ht : Tb w.heap.size w) : Calls Tryd.prog 16 #[v] w (fun e w' => e = .returned (.string ⟨#[110, 111, 116, 32, 49, 58, 114, 32, 61, 61, 32, 48]⟩) ∧ Below w.heap.size w w') := by
  have h := show_cond co8 ok_co8 (by rw [co8_text]; simp) (by rw [co8_text]; decide) v w hv ht
  rw [co8_text] at h
  exact h
theorem show_p8 (Q : Nat → Prop) (v : Value) (w : World) (hv : LPg Q w v pg8) (ht : Tb w.heap.size w) : Calls Tryd.prog 12 #[v] w (fun e w' => e = .returned (.string ⟨#[108, 105, 116, 109, 117, 115, 32, 97, 32, 118, 97, 108, 117, 101, 115, 32, 50, 10, 105, 110, 105, 116, 32, 120, 32, 48, 10, 116, 104, 114, 101, 97, 100, 32, 123, 10, 32, 32, 102, 101, 110, 99, 101, 32, 115, 99, 59, 10, 125, 10, 101, 120, 105, 115, 116, 115, 32, 110, 111, 116, 32, 49, 58, 114, 32, 61, 61, 32, 48, 10]⟩) ∧ Below w.heap.size w w') := by
  have h := show_prog pg8 ok_pg8 (by rw [pg8_text]; decide) v w hv ht
  rw [pg8_text] at h
  exact h
theorem mode_three (w : World) : Calls Tryd.prog 18 #[.int .i64 3] w (fun e w' => e = .returned (.string ⟨#[97, 99, 113, 114, 101, 108]⟩) ∧ w = w') := mode_is 3 w
theorem mode_nine (w : World) : Calls Tryd.prog 18 #[.int .i64 9] w (fun e w' => e = .returned (.string ⟨#[]⟩) ∧ w = w') := mode_is 9 w
set_option maxHeartbeats 6400000 in
theorem begun8_any (w : World) (ht : Tb w.heap.size w) : Calls Tryd.prog 8 #[] w (BoolTo true w) := by
  have HT := Lib.hid ht
  clear ht
  go_enter Tryd.func8, Tryd.ntmps8
  go_upto_region 2 with (fail)
  obtain ⟨hb1, hx1, hx2, hs1⟩ := two_new w 31 31 #[.int .i64 2, .int .i64 0, .string ⟨#[114]⟩, .slice none 0 0, .int .i64 1, .int .i64 1, .string ⟨#[]⟩, .slice none 0 0] #[.int .i64 3, .int .i64 0, .string ⟨#[]⟩, .slice (some ⟨w.heap.size, 0, none⟩) 2 2]
  have HX1 := Lib.hid hx1
  have HX2 := Lib.hid hx2
  have HB1 := Lib.hid hb1
  clear hb1 hx1 hx2 hs1
  generalize (w.alloc (.cells #[.int .i64 2, .int .i64 0, .string ⟨#[114]⟩, .slice none 0 0, .int .i64 1, .int .i64 1, .string ⟨#[]⟩, .slice none 0 0] 31)).alloc (.cells #[.int .i64 3, .int .i64 0, .string ⟨#[]⟩, .slice (some ⟨w.heap.size, 0, none⟩) 2 2] 31) = w1 at *
  go_upto_region 3 with (fail)
  obtain ⟨hb2, hc1, hc2, hs2⟩ := two_new w1 26 26 #[.int .i64 2, .int .i64 1, .string ⟨#[114]⟩, .int .i64 0, .slice none 0 0] #[.int .i64 3, .int .i64 0, .string ⟨#[]⟩, .int .i64 0, .slice (some ⟨w1.heap.size, 0, none⟩) 1 1]
  have HC1 := Lib.hid hc1
  have HC2 := Lib.hid hc2
  have HX1 := Lib.hid (HX1.out.live' hb2)
  have HX2 := Lib.hid (HX2.out.live' hb2)
  have HB2 := Lib.hid (HB1.out.trans (hb2.mono HB1.out.size))
  clear hb2 hc1 hc2 hs2
  generalize (w1.alloc (.cells #[.int .i64 2, .int .i64 1, .string ⟨#[114]⟩, .int .i64 0, .slice none 0 0] 26)).alloc (.cells #[.int .i64 3, .int .i64 0, .string ⟨#[]⟩, .int .i64 0, .slice (some ⟨w1.heap.size, 0, none⟩) 1 1] 26) = w2 at *
  obtain ⟨s0, s1, s2, s3, s4⟩ := five_cells (((HC2.out.alloc (.cells #[.string ⟨#[120]⟩, .int .i64 0] 65)).alloc (.cells #[.int .i64 6, .int .i64 4, .string ⟨#[]⟩, .string ⟨#[]⟩, .slice none 0 0, .slice none 0 0, .slice none 0 0] 68)).alloc (.cells #[.slice (some ⟨w2.heap.size + 1, 0, none⟩) 1 1] 66))
  have HS3 := Lib.hid (four_new w2 65 68 66 28 #[.string ⟨#[120]⟩, .int .i64 0] #[.int .i64 6, .int .i64 4, .string ⟨#[]⟩, .string ⟨#[]⟩, .slice none 0 0, .slice none 0 0, .slice none 0 0] #[.slice (some ⟨w2.heap.size + 1, 0, none⟩) 1 1] #[.string ⟨#[97]⟩, .int .i64 2, .slice (some ⟨w2.heap.size, 0, none⟩) 1 1, .slice (some ⟨w2.heap.size + 1 + 1, 0, none⟩) 1 1, .int .i64 1, .int .i64 3, .int .i64 0, .string ⟨#[]⟩, .int .i64 0, .slice (some ⟨w1.heap.size, 0, none⟩) 1 1])
  go_upto_region 4 with (fail)
  clear s0 s1 s2 s3 s4
  obtain ⟨hb3, hi, hs, hl, hp⟩ := HS3.out
  have HX1 := Lib.hid (HX1.out.live' hb3)
  have HX2 := Lib.hid (HX2.out.live' hb3)
  have HC1 := Lib.hid (HC1.out.live' hb3)
  have HC2 := Lib.hid (HC2.out.live' hb3)
  have HB3 := Lib.hid (HB2.out.trans (hb3.mono HB2.out.size))
  have HLX := Lib.hid (lx8 HX1.out)
  have HLC := Lib.hid (lc8 HC1.out)
  have HLP := Lib.hid (lp8 hi hs hl HC1.out)
  have HP := Lib.hid hp
  clear HS3 hb3 hi hs hl hp HB1 HB2
  generalize (((w2.alloc (.cells #[.string ⟨#[120]⟩, .int .i64 0] 65)).alloc (.cells #[.int .i64 6, .int .i64 4, .string ⟨#[]⟩, .string ⟨#[]⟩, .slice none 0 0, .slice none 0 0, .slice none 0 0] 68)).alloc (.cells #[.slice (some ⟨w2.heap.size + 1, 0, none⟩) 1 1] 66)).alloc (.cells #[.string ⟨#[97]⟩, .int .i64 2, .slice (some ⟨w2.heap.size, 0, none⟩) 1 1, .slice (some ⟨w2.heap.size + 1 + 1, 0, none⟩) 1 1, .int .i64 1, .int .i64 3, .int .i64 0, .string ⟨#[]⟩, .int .i64 0, .slice (some ⟨w1.heap.size, 0, none⟩) 1 1] 28) = w3 at *
  obtain ⟨s0, s1, s2, s3, _, _, _, _⟩ := four_free HX2.out
  go_wp2_with fail
  with_reducible refine (show_e8 _ _ w3 HLX.out (HT.out.from HB3.out HB3.out.size)).mono ?_
  rintro e w4 ⟨rfl, hb4⟩
  have HB4 := Lib.hid (HB3.out.trans (hb4.mono HB3.out.size))
  obtain ⟨z0, z1, z2, z3, z4⟩ := five_cells (HC2.out.live' hb4)
  have HP4 := Lib.hid (HP.out.live' hb4)
  have HLC4 := Lib.hid (HLC.out.keep (fun g hg hl => hb4.block g hl))
  have HLP4 := Lib.hid (HLP.out.keep (fun g hg hl => hb4.block g hl))
  clear hb4 s0 s1 s2 s3
  go_wp2_with fail
  with_reducible refine (show_c8 _ _ w4 HLC4.out (HT.out.from HB4.out HB4.out.size)).mono ?_
  rintro e w5 ⟨rfl, hb5⟩
  have HB5 := Lib.hid (HB4.out.trans (hb5.mono HB4.out.size))
  have HLP5 := Lib.hid (HLP4.out.keep (fun g hg hl => hb5.block g hl))
  obtain ⟨⟨q0, q1, q2, q3, q4, q5, q6, q7, q8, q9⟩, _⟩ := ten_free (HP4.out.live' hb5)
  clear hb5 z0 z1 z2 z3 z4
  go_wp2_with fail
  with_reducible refine (show_p8 _ _ w5 HLP5.out (HT.out.from HB5.out HB5.out.size)).mono ?_
  rintro e w6 ⟨rfl, hb6⟩
  have HB6 := Lib.hid (HB5.out.trans (hb6.mono HB5.out.size))
  clear hb6 q0 q1 q2 q3 q4 q5 q6 q7 q8 q9
  go_wp2_with fail
  with_reducible refine (mode_three w6).mono ?_
  rintro e w7 ⟨rfl, rfl⟩
  go_wp2_with fail
  with_reducible refine (mode_nine w6).mono ?_
  rintro e w7 ⟨rfl, rfl⟩
  go_wp2_with fail
  go_ret
  exact ⟨rfl, HB6.out⟩
end Go.Proofs.YtchokfgffnomoaaDoor.Lx
/-
  The text of a page that holds none, and show's Expr and Cond of such: what is of no known kind.
-/
namespace Go.Proofs.YtchokfgffnomoaaDoor.Lx
open Go.RowKit
open P (EX CO)
set_option maxRecDepth 100000
set_option linter.unusedVariables false
set_option linter.unusedSimpArgs false
theorem us_none (p : Value) (w : World) (hp : p = .pointer none ∨ ∃ a, p = .pointer (some a)) : (Builtin.unsafeString_ #[95, 3] 9 #[p, .int .i64 0]).run Tryd.prog w = .ok (.string ⟨#[]⟩) w := by
  rcases hp with rfl | ⟨a, rfl⟩
  · kernel_rfl
  · kernel_rfl
set_option maxHeartbeats 6400000 in
theorem string_nilP {B b : Nat} {m : Int} {w : World} (h : Pg B w b m []) :
    Calls Tryd.prog 34 #[.pointer (some ⟨b, 0, none⟩)] w (fun e w' => e = .returned (.string ⟨#[]⟩) ∧ Below B w w') := by
  obtain ⟨p, v, hp, hbk, hown⟩ := h.blk
  have hBb := h.base
  have hlt := hbk.lt
  have hBw : B ≤ w.heap.size := by omega
  clear h
  have hUS := fun w => us_none (.pointer none) w (.inl rfl)
  have hUA := fun a w => us_none (.pointer (some a)) w (.inr ⟨a, rfl⟩)
  rcases hown.2 with ⟨rfl, _⟩ | ⟨g, cap, cur, rfl, hbg, hg, hnc, hcm, hcs, htake⟩
  · have c1 : w.drew.cell? ⟨b, 1, none⟩ = some (.slice none 0 0) := hbk.cell 1
    have hSD : (Builtin.unsafeSliceData_ #[54] 95 #[.slice none 0 0]).run Tryd.prog w.drew = .ok (.pointer none) w.drew := rfl
    clear hbk hown
    go_enter Tryd.func34, Tryd.ntmps34
    go_wp2_with fail
    go_region
    all_goals (go_wp2; go_ret; exact ⟨rfl, Below.drew (Below.refl B w)⟩)
  · by_cases hc0 : cap = 0
    · subst hc0
      have c1 : w.drew.cell? ⟨b, 1, none⟩ = some (.slice (some ⟨g, 0, none⟩) 0 0) := hbk.cell 1
      have hSD : (Builtin.unsafeSliceData_ #[54] 95 #[.slice (some ⟨g, 0, none⟩) 0 0]).run Tryd.prog w.drew = .ok (.pointer (some ⟨w.drew.heap.size, 0, none⟩)) (w.drew.alloc (.view ⟨g, 0, none⟩ 5)) :=
        Lib.run_unsafeSliceData_zero w.drew _ _ 5 Tryd.underlying95 ⟨g, 0, none⟩ 0 (5, cur.size) (by have hg' : w.drew.heap[g]? = some (.cells cur 5 (0, 0)) := hg; simp [World.shape?, hg'])
      have hbk2 := hbk.alloc (.view ⟨g, 0, none⟩ 5)
      have c2 : (w.drew.alloc (.view ⟨g, 0, none⟩ 5)).cell? ⟨b, 1, none⟩ = some (.slice (some ⟨g, 0, none⟩) 0 0) := hbk2.cell 1
      have c3 : (w.alloc (.view ⟨g, 0, none⟩ 5)).drew.cell? ⟨b, 1, none⟩ = some (.slice (some ⟨g, 0, none⟩) 0 0) := c2
      have c0 : w.cell? ⟨b, 1, none⟩ = some (.slice (some ⟨g, 0, none⟩) 0 0) := c1
      clear hbk hbk2 hown hg
      go_enter Tryd.func34, Tryd.ntmps34
      go_wp2_with fail
      go_region
      all_goals (go_wp2; go_ret; exact ⟨rfl, (Below.drew (Below.refl B w)).alloc hBw _⟩)
    · have c1 : w.drew.cell? ⟨b, 1, none⟩ = some (.slice (some ⟨g, 0, none⟩) 0 cap) := hbk.cell 1
      have hSD : (Builtin.unsafeSliceData_ #[54] 95 #[.slice (some ⟨g, 0, none⟩) 0 cap]).run Tryd.prog w.drew = .ok (.pointer (some ⟨g, 0, none⟩)) w.drew :=
        Lib.run_unsafeSliceData_row _ _ _ _ _ _ hc0
      clear hbk hown hg hc0
      go_enter Tryd.func34, Tryd.ntmps34
      go_wp2_with fail
      go_region
      all_goals (go_wp2; go_ret; exact ⟨rfl, Below.drew (Below.refl B w)⟩)
/-- Whatever a page holds. -/
theorem string_all {B b : Nat} {m : Int} {l : List UInt8} {w : World} (h : Pg B w b m l) :
    Calls Tryd.prog 34 #[.pointer (some ⟨b, 0, none⟩)] w (fun e w' => e = .returned (.string (bs l)) ∧ Below B w w') := by
  by_cases h0 : l = []
  · subst h0
    exact string_nilP h
  · exact string_any h h0
theorem pg_newA {B : Nat} {w : World} (h : Tb B w) (hB : B ≤ w.heap.size) : Pg B (w.alloc (.cells #[.pointer none, .slice none 0 0, .int .i64 0] 75)) w.heap.size 0 [] :=
  ⟨hB, h.step ((Below.refl B w).alloc hB _), .pointer none, .slice none 0 0, .inl rfl, Blk.new w 75 #[.pointer none, .slice none 0 0, .int .i64 0], rfl, .inl ⟨rfl, rfl⟩⟩
/-- A text is told. -/
def ShowAs (t : List UInt8) (w : World) (e : Ending) (w' : World) : Prop := e = .returned (.string (bs t)) ∧ Below w.heap.size w w'
set_option maxHeartbeats 6400000 in
theorem show_exprA (x : EX) (ho : okX x) (hl : (P.xE x).length ≤ big) {Q : Nat → Prop} (v : Value) (w : World) (hv : LX Q w v x) (ht : Tb w.heap.size w) :
    Calls Tryd.prog 14 #[v] w (ShowAs (P.xE x) w) := by
  have hv := LX.mono (Q' := (· < w.heap.size)) (fun g hg hl => hl) x hv
  obtain ⟨op, n, nm, kids⟩ := x
  have hv9 := hv
  unfold LX at hv
  obtain ⟨a, cap, rfl, hm, hc⟩ := hv
  clear hm hc
  have hv := hv9
  clear hv9
  have HB := Lib.hid (Blk.new w 31 #[.int .i64 op, .int .i64 n, .string (bs nm), .slice a kids.length cap])
  have HW := Lib.hid (show Below w.heap.size w (w.alloc (.cells #[.int .i64 op, .int .i64 n, .string (bs nm), .slice a kids.length cap] 31)) from (Below.refl _ _).alloc (Nat.le_refl _) _)
  have HT := Lib.hid (ht.step HW.out)
  have HS := Lib.hid (show w.heap.size ≤ (w.alloc (.cells #[.int .i64 op, .int .i64 n, .string (bs nm), .slice a kids.length cap] 31)).heap.size by simp)
  have HV := Lib.hid (hv.keep (fun g hg hl => HW.out.block g hl))
  have HL := Lib.hid hl
  have HO := Lib.hid ho
  clear ht hv hl ho
  go_enter Tryd.func14, Tryd.ntmps14
  go_upto_region 1 with (fail)
  generalize w.alloc (.cells #[.int .i64 op, .int .i64 n, .string (bs nm), .slice a kids.length cap] 31) = w1 at *
  generalize hBB : w.heap.size = B0 at *
  have HBB := Lib.hid hBB
  clear hBB
  have HP := Lib.hid (pg_newA HT.out HS.out)
  have HX := Lib.hid (show Below w1.heap.size w1 (w1.alloc (.cells #[.pointer none, .slice none 0 0, .int .i64 0] 75)) from (Below.refl _ _).alloc (Nat.le_refl _) _)
  have HB2 := Lib.hid (HB.out.live' HX.out)
  have HV2 := Lib.hid (HV.out.keep (fun g hg hl => HX.out.block g hl))
  go_upto_region 2 with (fail)
  generalize w1.alloc (.cells #[.pointer none, .slice none 0 0, .int .i64 0] 75) = w2 at *
  generalize w1.heap.size = b at *
  have q0 : w2.cell? ⟨B0, 0, none⟩ = some (.int .i64 op) := HB2.out.cell 0
  have q1 : w2.cell? ⟨B0, 1, none⟩ = some (.int .i64 n) := HB2.out.cell 1
  have q2 : w2.cell? ⟨B0, 2, none⟩ = some (.string (bs nm)) := HB2.out.cell 2
  have q3 : w2.cell? ⟨B0, 3, none⟩ = some (.slice a kids.length cap) := HB2.out.cell 3
  have HC := Lib.hid (pgexpr_any (B := B0) _ _ (Nat.le_refl _) HO.out 0 [] _ w2 HV2.out HP.out (by have := HL.out; simpa using this))
  go_wp2_with fail
  with_reducible refine HC.out.mono ?_
  rintro e w3 ⟨rfl, hp3, hk3⟩
  have HR := Lib.hid (string_all hp3)
  go_wp2_with fail
  with_reducible refine HR.out.mono ?_
  rintro e w4 ⟨rfl, hb4⟩
  go_wp2_with fail
  go_ret
  refine ⟨rfl, ?_⟩
  rw [HBB.out]
  exact (HW.out.trans (HX.out.mono HS.out)).trans (hk3.bel.trans hb4)
set_option maxHeartbeats 6400000 in
theorem show_condA (x : CO) (ho : okC x) (hl : (P.xC x).length ≤ big) {Q : Nat → Prop} (v : Value) (w : World) (hv : LC Q w v x) (ht : Tb w.heap.size w) :
    Calls Tryd.prog 16 #[v] w (ShowAs (P.xC x) w) := by
  have hv := LC.mono (Q' := (· < w.heap.size)) (fun g hg hl => hl) x hv
  obtain ⟨op, th, nm, n, kids⟩ := x
  have hv9 := hv
  unfold LC at hv
  obtain ⟨a, cap, rfl, hm, hc⟩ := hv
  clear hm hc
  have hv := hv9
  clear hv9
  have HB := Lib.hid (Blk.new w 26 #[.int .i64 op, .int .i64 th, .string (bs nm), .int .i64 n, .slice a kids.length cap])
  have HW := Lib.hid (show Below w.heap.size w (w.alloc (.cells #[.int .i64 op, .int .i64 th, .string (bs nm), .int .i64 n, .slice a kids.length cap] 26)) from (Below.refl _ _).alloc (Nat.le_refl _) _)
  have HT := Lib.hid (ht.step HW.out)
  have HS := Lib.hid (show w.heap.size ≤ (w.alloc (.cells #[.int .i64 op, .int .i64 th, .string (bs nm), .int .i64 n, .slice a kids.length cap] 26)).heap.size by simp)
  have HV := Lib.hid (hv.keep (fun g hg hl => HW.out.block g hl))
  have HL := Lib.hid hl
  have HO := Lib.hid ho
  clear ht hv hl ho
  go_enter Tryd.func16, Tryd.ntmps16
  go_upto_region 1 with (fail)
  generalize w.alloc (.cells #[.int .i64 op, .int .i64 th, .string (bs nm), .int .i64 n, .slice a kids.length cap] 26) = w1 at *
  generalize hBB : w.heap.size = B0 at *
  have HBB := Lib.hid hBB
  clear hBB
  have HP := Lib.hid (pg_newA HT.out HS.out)
  have HX := Lib.hid (show Below w1.heap.size w1 (w1.alloc (.cells #[.pointer none, .slice none 0 0, .int .i64 0] 75)) from (Below.refl _ _).alloc (Nat.le_refl _) _)
  have HB2 := Lib.hid (HB.out.live' HX.out)
  have HV2 := Lib.hid (HV.out.keep (fun g hg hl => HX.out.block g hl))
  go_upto_region 2 with (fail)
  generalize w1.alloc (.cells #[.pointer none, .slice none 0 0, .int .i64 0] 75) = w2 at *
  generalize w1.heap.size = b at *
  have q0 : w2.cell? ⟨B0, 0, none⟩ = some (.int .i64 op) := HB2.out.cell 0
  have q1 : w2.cell? ⟨B0, 1, none⟩ = some (.int .i64 th) := HB2.out.cell 1
  have q2 : w2.cell? ⟨B0, 2, none⟩ = some (.string (bs nm)) := HB2.out.cell 2
  have q3 : w2.cell? ⟨B0, 3, none⟩ = some (.int .i64 n) := HB2.out.cell 3
  have q4 : w2.cell? ⟨B0, 4, none⟩ = some (.slice a kids.length cap) := HB2.out.cell 4
  have HC := Lib.hid (pgcond_any (B := B0) _ _ (Nat.le_refl _) HO.out 0 [] _ w2 HV2.out HP.out (by have := HL.out; simpa using this))
  go_wp2_with fail
  with_reducible refine HC.out.mono ?_
  rintro e w3 ⟨rfl, hp3, hk3⟩
  have HR := Lib.hid (string_all hp3)
  go_wp2_with fail
  with_reducible refine HR.out.mono ?_
  rintro e w4 ⟨rfl, hb4⟩
  go_wp2_with fail
  go_ret
  refine ⟨rfl, ?_⟩
  rw [HBB.out]
  exact (HW.out.trans (HX.out.mono HS.out)).trans (hk3.bel.trans hb4)
end Go.Proofs.YtchokfgffnomoaaDoor.Lx
/-
  How data that came in are opened: fields, rows, expressions as trees. It proves nothing of Go by itself.
-/
namespace Go.Proofs.YtchokfgffnomoaaDoor.Lx
open Go.RowKit
open P (EX)
set_option maxRecDepth 100000
set_option linter.unusedVariables false
set_option linter.unusedSimpArgs false
/-- A number is an int. -/
def W64 (n : Int) : Prop := -9223372036854775808 ≤ n ∧ n ≤ 9223372036854775807
theorem w64_of {n : Int} (h : (Lit.int .i64 n).wf = true) : W64 n := by
  have : -9223372036854775808 ≤ n ∧ n ≤ 9223372036854775807 := by simpa [Lit.wf, IntKind.min, IntKind.max, IntKind.signed, IntKind.bits] using h
  exact this
section
variable {H : Type} {enc : TypeId × Value → H} {W : World} {base : Nat} {spare : Nat → Bool} {held : Bool}
theorem fld {n : Nat} {t : TypeId} {fs : Array Field} {cs : List Value} {x : DataW H × List MemPlace} (ht : Tryd.prog.underlying t = some (.struct fs)) (h : DataW.trod enc Tryd.prog W base spare held (n + 1) t cs = some x) (i : Nat) (f : Field) (hf : fs[i]? = some f) :
    ∃ y, DataW.trod enc Tryd.prog W base spare held n f.type ((cs.drop f.offset).take (Tryd.prog.cellsOf f.type)) = some y := by
  obtain ⟨xs, m, hm, _, _, hl, hg⟩ := DataW.trod_struct ht h
  obtain rfl : n = m := by omega
  have hi : i < fs.size := by
    rcases Nat.lt_or_ge i fs.size with h | h
    · exact h
    · rw [Array.getElem?_eq_none h] at hf
      cases hf
  have h1 := hg i f hf
  rw [List.getElem?_eq_getElem (by omega)] at h1
  exact ⟨_, h1⟩
theorem fldc {n : Nat} {t t' : TypeId} {fs : Array Field} {cs cs' : List Value} {x : DataW H × List MemPlace} {k : Nat} (ht : Tryd.prog.underlying t = some (.struct fs)) (h : DataW.trod enc Tryd.prog W base spare held (n + 1) t cs = some x) (i : Nat) (f : Field) (hf : fs[i]? = some f) (ht' : f.type = t') (hk : Tryd.prog.cellsOf t' = k) (hcs : (cs.drop f.offset).take k = cs') :
    ∃ y, DataW.trod enc Tryd.prog W base spare held n t' cs' = some y := by
  subst ht' hk hcs
  exact fld ht h i f hf
theorem fld_len {n : Nat} {t : TypeId} {fs : Array Field} {cs : List Value} {x : DataW H × List MemPlace} (ht : Tryd.prog.underlying t = some (.struct fs)) (h : DataW.trod enc Tryd.prog W base spare held n t cs = some x) : cs.length = Tryd.prog.cellsOf t := by
  obtain ⟨xs, m, hm, _, hc, hl, hg⟩ := DataW.trod_struct ht h
  exact hc
theorem add_off (g off m : Nat) : (⟨g, off, none⟩ : Addr).add m = ⟨g, off + m, none⟩ := by
  unfold Addr.add
  split
  · subst_vars
    rfl
  · rfl
/-- A row of things of k cells each. -/
theorem elems {n : Nat} {t e : TypeId} {k : Nat} {c : Value} {x : DataW H × List MemPlace} (ht : Tryd.prog.underlying t = some (.slice e)) (hk : Tryd.prog.cellsOf e = k) (h0 : 0 < k) (h : DataW.trod enc Tryd.prog W base spare held (n + 1) t [c] = some x) :
    ∃ (a : Option Addr) (len cap : Nat), c = .slice a len cap ∧ len ≤ cap ∧ cap ≤ maxLen ∧ (len = 0 ∨ ∃ g off, a = some ⟨g, off, none⟩ ∧ ∀ i, i < len → ∃ ds y, ds.length = k ∧ DataW.trod enc Tryd.prog W base spare held n e ds = some y ∧ ∀ j, j < k → W.cell? ⟨g, off + i * k + j, none⟩ = ds[j]?) := by
  rcases DataW.trod_slice ht h with ⟨hc, _⟩ | ⟨a, len, cap, el, re, m, hm, hc, _, _, hlc, hcm, hel, hat, _, _⟩
  · simp at hc
    subst hc
    exact ⟨none, 0, 0, rfl, Nat.le_refl _, Nat.zero_le _, .inl rfl⟩
  · obtain rfl : n = m := by omega
    simp at hc
    subst hc
    refine ⟨some a, len, cap, rfl, hlc, hcm, ?_⟩
    by_cases hz : len = 0
    · exact .inl hz
    right
    have key : ∀ i, i < len → ∃ ds y, W.cells? base (a.add (i * Tryd.prog.cellsOf e)) (Tryd.prog.cellsOf e) = some ds ∧ DataW.trod enc Tryd.prog W base spare held n e ds = some y := by
      intro i hi
      have h1 := hat i hi
      rw [List.getElem?_eq_getElem (by omega)] at h1
      obtain ⟨ds, h2, h3⟩ := Option.bind_eq_some_iff.1 h1
      exact ⟨ds, _, h2, h3⟩
    have spot : a.spot = none := by
      obtain ⟨ds, y, h1, _⟩ := key 0 (by omega)
      obtain ⟨_, hl, hcs⟩ := World.cells?_some h1
      have h2 := hcs 0 (by omega)
      rw [List.getElem?_eq_getElem (by omega)] at h2
      have h3 := World.cell?_spot h2
      simpa [Addr.add] using h3
    obtain ⟨g, off, sp⟩ := a
    simp only at spot
    subst spot
    refine ⟨g, off, rfl, fun i hi => ?_⟩
    obtain ⟨ds, y, h1, h2⟩ := key i hi
    obtain ⟨_, hl, hcs⟩ := World.cells?_some h1
    refine ⟨ds, y, by omega, h2, fun j hj => ?_⟩
    have h3 := hcs j (by omega)
    rw [hk, add_off, add_off] at h3
    exact h3
end
theorem pick_list {α : Type} {R : Nat → α → Prop} : ∀ (n : Nat), (∀ i, i < n → ∃ a, R i a) → ∃ l : List α, l.length = n ∧ ∀ i, i < n → ∃ a, l[i]? = some a ∧ R i a
  | 0, _ => ⟨[], rfl, fun i hi => absurd hi (Nat.not_lt_zero _)⟩
  | n + 1, h => by
    obtain ⟨l, hl, hr⟩ := pick_list n (fun i hi => h i (by omega))
    obtain ⟨a, ha⟩ := h n (by omega)
    refine ⟨l ++ [a], by simp [hl], fun i hi => ?_⟩
    by_cases hin : i < n
    · obtain ⟨b, hb, hrb⟩ := hr i hin
      exact ⟨b, by rw [List.getElem?_append_left (by omega)]; exact hb, hrb⟩
    · obtain rfl : i = n := by omega
      refine ⟨a, ?_, ha⟩
      rw [List.getElem?_append_right (by omega)]
      simp [hl]
mutual
/-- Its numbers are ints, its names may be. -/
def wfX : EX → Prop
  | .mk o n s ks => W64 o ∧ W64 n ∧ s.length ≤ maxLen ∧ wfXs ks
def wfXs : List EX → Prop
  | [] => True
  | e :: es => wfX e ∧ wfXs es
end
theorem wfXs_mem : ∀ {es : List EX}, wfXs es → ∀ e ∈ es, wfX e
  | [], _, e, he => by cases he
  | x :: es, h, e, he => by
    unfold wfXs at h
    rcases List.mem_cons.1 he with rfl | he
    · exact h.1
    · exact wfXs_mem h.2 e he
theorem wfXs_of : ∀ {es : List EX}, (∀ e ∈ es, wfX e) → wfXs es
  | [], _ => by
    unfold wfXs
    trivial
  | x :: es, h => by
    unfold wfXs
    exact ⟨h x (.head _), wfXs_of (fun e he => h e (.tail _ he))⟩
theorem LXs.of {Q : Nat → Prop} {W : World} {g : Nat} : ∀ (es : List EX) (off : Nat), (∀ i, i < es.length → ∃ e c0 c1 c2 c3, es[i]? = some e ∧ W.cell? ⟨g, off + i * 4, none⟩ = some c0 ∧ W.cell? ⟨g, off + i * 4 + 1, none⟩ = some c1 ∧ W.cell? ⟨g, off + i * 4 + 2, none⟩ = some c2 ∧ W.cell? ⟨g, off + i * 4 + 3, none⟩ = some c3 ∧ LX Q W (.agg #[c0, c1, c2, c3]) e) → LXs Q W g off es
  | [], _, _ => by
    unfold LXs
    trivial
  | e :: es, off, h => by
    unfold LXs
    constructor
    · obtain ⟨e', c0, c1, c2, c3, he, h0, h1, h2, h3, hx⟩ := h 0 (by simp)
      obtain rfl : e = e' := by simpa using he
      rw [Nat.zero_mul, Nat.add_zero] at h0 h1 h2 h3
      exact ⟨c0, c1, c2, c3, h0, h1, h2, h3, hx⟩
    · refine LXs.of es (off + 4) (fun i hi => ?_)
      have h1 := h (i + 1) (by simp; omega)
      rw [show off + (i + 1) * 4 = off + 4 + i * 4 by omega] at h1
      simpa using h1
theorem cellsI : Tryd.prog.cellsOf 3 = 1 := by kernel_rfl
theorem cellsS : Tryd.prog.cellsOf 9 = 1 := by kernel_rfl
theorem cellsXs : Tryd.prog.cellsOf 29 = 1 := by kernel_rfl
theorem cellsX : Tryd.prog.cellsOf 31 = 4 := by kernel_rfl
theorem list4 {α : Type} {cs : List α} (h : cs.length = 4) : ∃ c0 c1 c2 c3, cs = [c0, c1, c2, c3] := by
  match cs, h with
  | [c0, c1, c2, c3], _ => exact ⟨c0, c1, c2, c3, rfl⟩
set_option maxHeartbeats 1000000 in
/-- An expression that came in is one. -/
theorem open_lx {H : Type} {enc : TypeId × Value → H} {W : World} {base : Nat} {spare : Nat → Bool} {held : Bool} : ∀ (n : Nat) (cs : List Value) (x : DataW H × List MemPlace), DataW.trod enc Tryd.prog W base spare held n 31 cs = some x → ∃ e, LX (fun _ => True) W (.agg cs.toArray) e ∧ wfX e
  | 0, cs, x, h => by simp [DataW.trod] at h
  | 1, cs, x, h => by
    obtain ⟨y, hy⟩ := fld Tryd.underlying31 h 0 _ rfl
    simp [DataW.trod] at hy
  | n + 2, cs, x, h => by
    obtain ⟨c0, c1, c2, c3, rfl⟩ := list4 ((fld_len Tryd.underlying31 h).trans cellsX)
    obtain ⟨y0, h0⟩ := fldc Tryd.underlying31 h 0 _ rfl (t' := 3) rfl cellsI (cs' := [c0]) rfl
    obtain ⟨y1, h1⟩ := fldc Tryd.underlying31 h 1 _ rfl (t' := 3) rfl cellsI (cs' := [c1]) rfl
    obtain ⟨y2, h2⟩ := fldc Tryd.underlying31 h 2 _ rfl (t' := 9) rfl cellsS (cs' := [c2]) rfl
    obtain ⟨y3, h3⟩ := fldc Tryd.underlying31 h 3 _ rfl (t' := 29) rfl cellsXs (cs' := [c3]) rfl
    obtain ⟨o, ho, _, wo⟩ := DataW.trod_int Tryd.underlying3 h0
    obtain ⟨m, hm, _, wm⟩ := DataW.trod_int Tryd.underlying3 h1
    obtain ⟨s, hs, _, ws⟩ := DataW.trod_string Tryd.underlying9 h2
    obtain ⟨a, len, cap, hc, hlc, hcm, hrow⟩ := elems Tryd.underlying29 cellsX (by decide) h3
    simp at ho hm hs
    subst ho hm hs hc
    rcases hrow with h0 | ⟨g, off, rfl, hrow⟩
    · subst h0
      exact ⟨.mk o m (by' s) [], by unfold LX; exact ⟨a, cap, rfl, Nat.zero_le _, .inl rfl⟩, by unfold wfX wfXs; exact ⟨w64_of wo, w64_of wm, ws, trivial⟩⟩
    · obtain ⟨ks, hkl, hks⟩ := pick_list (R := fun i e => ∃ c0 c1 c2 c3, W.cell? ⟨g, off + i * 4, none⟩ = some c0 ∧ W.cell? ⟨g, off + i * 4 + 1, none⟩ = some c1 ∧ W.cell? ⟨g, off + i * 4 + 2, none⟩ = some c2 ∧ W.cell? ⟨g, off + i * 4 + 3, none⟩ = some c3 ∧ LX (fun _ => True) W (.agg #[c0, c1, c2, c3]) e ∧ wfX e) len (fun i hi => by
        obtain ⟨ds, y, hd, hy, hcell⟩ := hrow i hi
        obtain ⟨d0, d1, d2, d3, rfl⟩ := list4 hd
        obtain ⟨e, he, hw⟩ := open_lx n _ y hy
        exact ⟨e, d0, d1, d2, d3, hcell 0 (by decide), hcell 1 (by decide), hcell 2 (by decide), hcell 3 (by decide), he, hw⟩)
      subst hkl
      refine ⟨.mk o m (by' s) ks, ?_, ?_⟩
      · unfold LX
        refine ⟨some ⟨g, off, none⟩, cap, rfl, by omega, .inr ⟨g, off, rfl, trivial, LXs.of ks off (fun i hi => ?_)⟩⟩
        obtain ⟨e, he, c0, c1, c2, c3, k0, k1, k2, k3, hx, _⟩ := hks i hi
        exact ⟨e, c0, c1, c2, c3, he, k0, k1, k2, k3, hx⟩
      · unfold wfX
        refine ⟨w64_of wo, w64_of wm, ws, wfXs_of (fun e he => ?_)⟩
        obtain ⟨i, hi⟩ := List.getElem?_of_mem he
        have hil : i < ks.length := by
          rcases Nat.lt_or_ge i ks.length with h | h
          · exact h
          · rw [List.getElem?_eq_none h] at hi
            cases hi
        obtain ⟨e', he', _, _, _, _, _, _, _, _, _, hw⟩ := hks i hil
        obtain rfl : e = e' := by
          rw [hi] at he'
          exact Option.some.inj he'
        exact hw
end Go.Proofs.YtchokfgffnomoaaDoor.Lx
/-
  What Digits of the document's answer tells of any number, as a contract.
-/
namespace Go.Proofs.YtchokfgffnomoaaDoor.Lx
open Go.RowKit
open P (xN)
set_option maxRecDepth 100000
set_option linter.unusedVariables false
set_option linter.unusedSimpArgs false
theorem xN_pos {n : Nat} : xN (n : Int) = L.decL n := by
  unfold P.xN
  rw [if_neg (by omega), Int.toNat_natCast]
theorem xN_neg {n : Nat} (h : 0 < n) : xN (-(n : Int)) = 45 :: L.decL n := by
  unfold P.xN
  rw [if_pos (by omega)]
  congr 2
  omega
theorem cat45 (b : List UInt8) : (⟨#[45]⟩ : ByteArray) ++ bs b = bs (45 :: b) := bs_app [45] b
set_option maxHeartbeats 1600000 in
theorem digits_neg1 (z : Int) (n : Nat) (hz : z = -(n : Int)) (h0 : 0 < n) (h10 : n < 10) (w : World) : Calls Tryd.prog 35 #[.int .i64 z] w (TextTo (bs (xN z)) w) := by
  have HC := Lib.hid (show Calls Tryd.prog 35 #[.int .i64 (-z)] w (TextTo (bs (L.decL n)) w) from by
    rw [show -z = (n : Int) by omega]
    exact digits_any n w (by omega))
  have HX := Lib.hid (show (⟨#[45]⟩ : ByteArray) ++ bs (L.decL n) = bs (xN z) by rw [hz, xN_neg h0, cat45])
  have hl : (bs (L.decL n)).size ≤ 19 := by rw [bs_size]; exact dec_max _ (by omega)
  have d1 : decide ((0 : Int) ≤ z) = false := decide_eq_false (by omega)
  have d2 : decide ((-10 : Int) < z) = true := decide_eq_true (by omega)
  have h1 : z < 0 := by omega
  have h2 : -10 < z := by omega
  have hw : IntKind.i64.wrap (-z) = -z := IntWalk.i64_in _ (by omega)
  generalize bs (L.decL n) = A at *
  generalize bs (xN z) = C at *
  have hsum : ¬ (⟨#[45]⟩ : ByteArray).size + A.size > 9223372036854775807 := by
    have : (⟨#[45]⟩ : ByteArray).size = 1 := rfl
    omega
  clear hz h0 h10
  go_enter Tryd.func35, Tryd.ntmps35
  go_wp2_with fail
  with_reducible refine HC.out.mono ?_
  rintro e w1 ⟨rfl, hb1⟩
  go_wp2_with fail
  go_ret
  exact ⟨by rw [← HX.out]; rfl, hb1⟩
set_option maxHeartbeats 1600000 in
theorem digits_negs (n : Nat) : ∀ (z : Int) (w : World), z = -(n : Int) → 0 < n → n ≤ 9223372036854775808 → Calls Tryd.prog 35 #[.int .i64 z] w (TextTo (bs (xN z)) w) := by
  induction n using Nat.strongRecOn with
  | ind n ih =>
    intro z w hz h0 hn
    by_cases h10 : n < 10
    · exact digits_neg1 z n hz h0 h10 w
    have hq : z.tdiv 10 = -((n / 10 : Nat) : Int) := by
      rw [hz, Int.neg_tdiv, Int.tdiv_eq_ediv_of_nonneg (by omega)]
      omega
    have hr : z.tmod 10 = -((n % 10 : Nat) : Int) := by
      rw [hz, Int.neg_tmod, Int.tmod_eq_emod_of_nonneg (by omega)]
      omega
    have IH := Lib.hid (fun w => ih (n / 10) (by omega) (-((n : Int) / 10)) w (by omega) (by omega) (by omega))
    have IR := Lib.hid (show ∀ w, Calls Tryd.prog 35 #[.int .i64 ((n : Int) % 10)] w (TextTo (bs [UInt8.ofNat (48 + n % 10)]) w) from fun w => digits_small (n % 10) (UInt8.ofNat (48 + n % 10)) w (by omega) (L.digit_nat (by omega)))
    have HX := Lib.hid (show bs (xN (-((n : Int) / 10))) ++ bs [UInt8.ofNat (48 + n % 10)] = bs (xN z) by
      rw [bs_app, hz, xN_neg h0, show -((n : Int) / 10) = -((n / 10 : Nat) : Int) by omega, xN_neg (by omega), List.cons_append, ← L.dec_great h10])
    have hl1 : (bs (xN (-((n : Int) / 10)))).size ≤ 20 := by
      rw [bs_size, show -((n : Int) / 10) = -((n / 10 : Nat) : Int) by omega, xN_neg (by omega), List.length_cons]
      have := dec_max (n / 10) (by omega)
      omega
    have hl2 : (bs [UInt8.ofNat (48 + n % 10)]).size ≤ 1 := by rw [bs_size]; simp
    have hb1 : -922337203685477580 ≤ z.tdiv 10 ∧ z.tdiv 10 < 0 := by omega
    have hb2 : -9 ≤ z.tmod 10 ∧ z.tmod 10 ≤ 0 := by omega
    have d1 : decide ((0 : Int) ≤ z) = false := decide_eq_false (by omega)
    have d2 : decide ((-10 : Int) < z) = false := decide_eq_false (by omega)
    have h1 : z < 0 := by omega
    generalize bs (xN (-((n : Int) / 10))) = A at *
    generalize bs [UInt8.ofNat (48 + n % 10)] = B at *
    generalize bs (xN z) = C at *
    clear hz ih
    go_enter Tryd.func35, Tryd.ntmps35
    go_wp2_with fail
    with_reducible refine (IH.out _).mono ?_
    rintro e w1 ⟨rfl, hbw⟩
    go_wp2_with fail
    with_reducible refine (IR.out _).mono ?_
    rintro e w2 ⟨rfl, hbw2⟩
    have hsz1 := hbw.size
    have hsum : ¬ A.size + B.size > 9223372036854775807 := by omega
    go_wp2_with fail
    go_ret
    exact ⟨by rw [← HX.out]; rfl, hbw.trans (hbw2.mono hsz1)⟩
/-- Whatever number: its text. -/
theorem rdig_any (z : Int) (h : W64 z) (w : World) : Calls Tryd.prog 35 #[.int .i64 z] w (TextTo (bs (xN z)) w) := by
  obtain ⟨h1, h2⟩ := h
  by_cases h0 : 0 ≤ z
  · obtain ⟨n, rfl⟩ : ∃ n : Nat, z = (n : Nat) := ⟨z.toNat, by omega⟩
    rw [xN_pos]
    exact digits_any n w h2
  · exact digits_negs z.natAbs z w (by omega) (by omega) (by omega)
theorem xNum_len (z : Int) (h : W64 z) : (xN z).length ≤ 20 := by
  obtain ⟨h1, h2⟩ := h
  unfold P.xN
  split
  · rw [List.length_cons]
    have := L.dec_len z.natAbs 18 (by
      have h10 : (10 : Nat) ^ (18 + 1) = 10000000000000000000 := by decide
      omega)
    omega
  · have := dec_max z.toNat (by omega)
    omega
end Go.Proofs.YtchokfgffnomoaaDoor.Lx
/-
  PLAIN MATHEMATICS of numbers that go round, and that stop; of no program. It proves nothing of Go.
-/
namespace Go.Proofs.YtchokfgffnomoaaDoor.V
set_option linter.unusedVariables false
set_option linter.unusedSimpArgs false
/-- n is a number of numbers that go round. -/
def okB (n : Int) : Bool := decide (1 ≤ n ∧ n ≤ 2147483648)
theorem okB_iff (n : Int) : okB n = true ↔ 1 ≤ n ∧ n ≤ 2147483648 := by simp [okB]
/-- In. -/
def inI (v n : Int) : Int := if okB n = true then v % n else 0
theorem inI_ok {v n : Int} (h : 1 ≤ n ∧ n ≤ 2147483648) : inI v n = v % n := by rw [inI, if_pos ((okB_iff n).2 h)]
theorem inI_no {v n : Int} (h : ¬ (1 ≤ n ∧ n ≤ 2147483648)) : inI v n = 0 := by rw [inI, if_neg (fun e => h ((okB_iff n).1 e))]
theorem inI_bd {v n : Int} (h : 1 ≤ n ∧ n ≤ 2147483648) : 0 ≤ inI v n ∧ inI v n < n := by
  rw [inI_ok h]
  exact ⟨Int.emod_nonneg _ (by omega), Int.emod_lt_of_pos _ (by omega)⟩
theorem inI_in (v n : Int) : 0 ≤ inI v n ∧ inI v n ≤ 2147483647 := by
  by_cases h : 1 ≤ n ∧ n ≤ 2147483648
  · have := inI_bd (v := v) h
    omega
  · rw [inI_no h]
    omega
/-- Go's remainder, brought to what is not below 0. -/
theorem tmod_in (v n : Int) (h : 1 ≤ n) : (if v.tmod n < 0 then v.tmod n + n else v.tmod n) = v % n := by
  by_cases hv : 0 ≤ v
  · rw [Int.tmod_eq_emod_of_nonneg hv]
    have := Int.emod_nonneg v (show n ≠ 0 by omega)
    rw [if_neg (by omega)]
  · have h1 := @Int.tmod_eq_emod v n
    have h2 := Int.emod_nonneg v (show n ≠ 0 by omega)
    have h3 := Int.emod_lt_of_pos v (show 0 < n by omega)
    rw [h1]
    by_cases hd : n ∣ v
    · have h4 : v % n = 0 := Int.emod_eq_zero_of_dvd hd
      simp [hv, hd, h4]
    · have h4 : v % n ≠ 0 := fun e => hd (Int.dvd_of_emod_eq_zero e)
      have h5 : (n.natAbs : Int) = n := by omega
      simp only [hv, hd, or_self, if_false, h5]
      rw [if_pos (by omega)]
      omega
/-- Mul. -/
def mulI (a b n : Int) : Int := inI (a * b) n
def addI (a b n : Int) : Int := inI (a + b) n
def subI (a b n : Int) : Int := inI (a - b) n
theorem add_in (a b n : Int) : inI (inI a n + inI b n) n = addI a b n := by
  unfold addI
  by_cases h : 1 ≤ n ∧ n ≤ 2147483648
  · rw [inI_ok h, inI_ok h, inI_ok h, inI_ok h, ← Int.add_emod]
  · rw [inI_no h, inI_no h]
theorem sub_in (a b n : Int) : inI (inI a n - inI b n) n = subI a b n := by
  unfold subI
  by_cases h : 1 ≤ n ∧ n ≤ 2147483648
  · rw [inI_ok h, inI_ok h, inI_ok h, inI_ok h, ← Int.sub_emod]
  · rw [inI_no h, inI_no h]
theorem mul_in (a b n : Int) : inI (inI a n * inI b n) n = mulI a b n := by
  unfold mulI
  by_cases h : 1 ≤ n ∧ n ≤ 2147483648
  · rw [inI_ok h, inI_ok h, inI_ok h, inI_ok h, ← Int.mul_emod]
  · rw [inI_no h, inI_no h]
theorem in_in (a n : Int) : inI (inI a n) n = inI a n := by
  by_cases h : 1 ≤ n ∧ n ≤ 2147483648
  · rw [inI_ok h, inI_ok h, Int.emod_emod]
  · rw [inI_no h, inI_no h]
theorem add_l (a b n : Int) : addI (inI a n) b n = addI a b n := by rw [← add_in, in_in, add_in]
theorem add_r (a b n : Int) : addI a (inI b n) n = addI a b n := by rw [← add_in, in_in, add_in]
theorem sub_l (a b n : Int) : subI (inI a n) b n = subI a b n := by rw [← sub_in, in_in, sub_in]
theorem mul_l (a b n : Int) : mulI (inI a n) b n = mulI a b n := by rw [← mul_in, in_in, mul_in]
theorem mul_r (a b n : Int) : mulI a (inI b n) n = mulI a b n := by rw [← mul_in, in_in, mul_in]
theorem add_comm' (a b n : Int) : addI a b n = addI b a n := by unfold addI; rw [Int.add_comm]
theorem mul_comm' (a b n : Int) : mulI a b n = mulI b a n := by unfold mulI; rw [Int.mul_comm]
theorem add_assoc' (a b c n : Int) : addI (addI a b n) c n = addI a (addI b c n) n := by
  show addI (inI (a + b) n) c n = addI a (inI (b + c) n) n
  rw [add_l, add_r]
  unfold addI
  rw [Int.add_assoc]
theorem mul_assoc' (a b c n : Int) : mulI (mulI a b n) c n = mulI a (mulI b c n) n := by
  show mulI (inI (a * b) n) c n = mulI a (inI (b * c) n) n
  rw [mul_l, mul_r]
  unfold mulI
  rw [Int.mul_assoc]
theorem mul_add' (a b c n : Int) : mulI a (addI b c n) n = addI (mulI a b n) (mulI a c n) n := by
  show mulI a (inI (b + c) n) n = addI (inI (a * b) n) (inI (a * c) n) n
  rw [mul_r, add_l, add_r]
  unfold mulI addI
  rw [Int.mul_add]
theorem sub_add' (a b n : Int) : subI (addI a b n) b n = inI a n := by
  show subI (inI (a + b) n) b n = _
  rw [sub_l]
  unfold subI
  rw [show a + b - b = a by omega]
theorem mul_one' (a n : Int) : mulI a 1 n = inI a n := by
  unfold mulI
  rw [Int.mul_one]
theorem sub_neg' (a b n : Int) : subI a b n = addI a (-b) n := by
  unfold subI addI
  rw [show a - b = a + -b by omega]
/-- Remainders within sums and products. -/
theorem mod_lin (A B h n : Int) : (A % n + B % n * h) % n = (A + B * h) % n := by
  rw [Int.add_emod, Int.mul_emod, Int.emod_emod, Int.emod_emod, ← Int.mul_emod, ← Int.add_emod]
theorem half_eq (y : Int) : y = 2 * (y / 2) + y % 2 := by omega
theorem mul_odd {x y out n c : Int} (hy : y % 2 = 1) (h : (out + x * y) % n = c) : ((out + x) % n + (x + x) % n * (y / 2)) % n = c := by
  rw [mod_lin, ← h]
  congr 1
  have e : x * y = x * (2 * (y / 2) + y % 2) := by rw [← half_eq]
  rw [e, hy, Int.mul_add, Int.mul_one, ← Int.mul_assoc, Int.add_mul, Int.mul_comm x 2, Int.mul_assoc]
  omega
theorem mul_even {x y out n c : Int} (hy : y % 2 = 0) (h : (out + x * y) % n = c) : (out + (x + x) % n * (y / 2)) % n = c := by
  have e0 : (out + (x + x) % n * (y / 2)) % n = (out + (x + x) * (y / 2)) % n := by
    rw [Int.add_emod, Int.mul_emod, Int.emod_emod, ← Int.mul_emod, ← Int.add_emod]
  rw [e0, ← h]
  congr 1
  have e : x * y = x * (2 * (y / 2) + y % 2) := by rw [← half_eq]
  rw [e, hy, Int.mul_add, Int.mul_zero, ← Int.mul_assoc, Int.add_mul, Int.mul_comm x 2, Int.mul_assoc]
  omega
/-- What a round of multiplying by adding leaves. -/
structure MulS (a b n : Int) (k : Nat) (x y out : Int) : Prop where
  x0 : 0 ≤ x
  xn : x < n
  y0 : 0 ≤ y
  y1 : y < 2 ^ (32 - k)
  o0 : 0 ≤ out
  on : out < n
  eq : (out + x * y) % n = (a * b) % n
theorem MulS.start {a b n : Int} (h : 1 ≤ n ∧ n ≤ 2147483648) : MulS a b n 0 (inI a n) (inI b n) 0 := by
  have ha := inI_bd (v := a) h
  have hb := inI_bd (v := b) h
  refine ⟨ha.1, ha.2, hb.1, ?_, by omega, by omega, ?_⟩
  · show inI b n < 4294967296
    omega
  · rw [Int.zero_add, inI_ok h, inI_ok h, ← Int.mul_emod]
theorem MulS.odd {a b n : Int} {k : Nat} {x y out : Int} (h : 1 ≤ n ∧ n ≤ 2147483648) (hS : MulS a b n k x y out) (hk : k < 32) (hy : y % 2 = 1) : MulS a b n (k + 1) (inI (x + x) n) (y / 2) (inI (out + x) n) := by
  have h1 := inI_bd (v := x + x) h
  have h2 := inI_bd (v := out + x) h
  refine ⟨h1.1, h1.2, by have := hS.y0; omega, ?_, h2.1, h2.2, ?_⟩
  · have h3 := hS.y1
    rw [show 32 - k = (32 - (k + 1)) + 1 by omega, Int.pow_succ] at h3
    omega
  · rw [inI_ok h, inI_ok h]
    exact mul_odd hy hS.eq
theorem MulS.even {a b n : Int} {k : Nat} {x y out : Int} (h : 1 ≤ n ∧ n ≤ 2147483648) (hS : MulS a b n k x y out) (hk : k < 32) (hy : y % 2 = 0) : MulS a b n (k + 1) (inI (x + x) n) (y / 2) out := by
  have h1 := inI_bd (v := x + x) h
  refine ⟨h1.1, h1.2, by have := hS.y0; omega, ?_, hS.o0, hS.on, ?_⟩
  · have h3 := hS.y1
    rw [show 32 - k = (32 - (k + 1)) + 1 by omega, Int.pow_succ] at h3
    omega
  · rw [inI_ok h]
    exact mul_even hy hS.eq
theorem MulS.done {a b n : Int} {x y out : Int} (h : 1 ≤ n ∧ n ≤ 2147483648) (hS : MulS a b n 32 x y out) : out = mulI a b n := by
  have h1 := hS.y1
  have h0 := hS.y0
  have hy : y = 0 := by
    simp at h1
    omega
  have h2 := hS.eq
  rw [hy, Int.mul_zero, Int.add_zero, Int.emod_eq_of_lt hS.o0 hS.on] at h2
  unfold mulI
  rw [inI_ok h]
  exact h2
/-! ### numbers that stop -/
/-- The greatest number. -/
def top : Int := 4611686018427387904
/-- A number, brought to 0 to the greatest. -/
def at0 (v : Int) : Int := if v < 0 then 0 else if v > top then top else v
theorem at0_bd (v : Int) : 0 ≤ at0 v ∧ at0 v ≤ top := by
  unfold at0 top
  split
  · omega
  · split <;> omega
theorem at0_id {v : Int} (h0 : 0 ≤ v) (h1 : v ≤ top) : at0 v = v := by
  unfold at0
  rw [if_neg (by omega), if_neg (by omega)]
theorem at0_mono {a b : Int} (h : a ≤ b) : at0 a ≤ at0 b := by
  unfold at0 top
  split <;> split <;> (try split) <;> (try split) <;> omega
/-- What is more than the greatest is the greatest. -/
def stop (v : Int) : Int := if v > top then top else v
theorem stop_mono {a b : Int} (h : a ≤ b) : stop a ≤ stop b := by
  unfold stop top
  split <;> split <;> omega
theorem stop_bd {v : Int} (h : 0 ≤ v) : 0 ≤ stop v ∧ stop v ≤ top := by
  unfold stop top
  split <;> omega
theorem at0_stop {v : Int} (h : 0 ≤ v) : at0 (stop v) = stop v := at0_id (stop_bd h).1 (stop_bd h).2
def plusI (a b : Int) : Int := stop (at0 a + at0 b)
def timesI (a b : Int) : Int := stop (at0 a * at0 b)
theorem plus_bd (a b : Int) : 0 ≤ plusI a b ∧ plusI a b ≤ top := stop_bd (by have := at0_bd a; have := at0_bd b; omega)
theorem times_nn (a b : Int) : 0 ≤ at0 a * at0 b := Int.mul_nonneg (at0_bd a).1 (at0_bd b).1
theorem times_bd (a b : Int) : 0 ≤ timesI a b ∧ timesI a b ≤ top := stop_bd (times_nn a b)
theorem plus_comm' (a b : Int) : plusI a b = plusI b a := by unfold plusI; rw [Int.add_comm]
theorem times_comm' (a b : Int) : timesI a b = timesI b a := by unfold timesI; rw [Int.mul_comm]
theorem plus_mono {a b c : Int} (h : b ≤ c) : plusI a b ≤ plusI a c := stop_mono (by have := at0_mono h; omega)
theorem times_mono {a b c : Int} (h : b ≤ c) : timesI a b ≤ timesI a c := stop_mono (Int.mul_le_mul_of_nonneg_left (at0_mono h) (at0_bd a).1)
theorem stop_add {x y : Int} (hx : 0 ≤ x) (hy : 0 ≤ y) : stop (stop x + y) = stop (x + y) := by
  unfold stop top
  split <;> split <;> (try split) <;> omega
theorem stop_mul {x y : Int} (hx : 0 ≤ x) (hy : 0 ≤ y) : stop (stop x * y) = stop (x * y) := by
  by_cases h : x > top
  · have e : stop x = top := by unfold stop; rw [if_pos h]
    rw [e]
    by_cases h0 : y = 0
    · subst h0
      rw [Int.mul_zero, Int.mul_zero]
    · have h1 : top ≤ top * y := by
        have := Int.mul_le_mul_of_nonneg_left (show (1 : Int) ≤ y by omega) (show 0 ≤ top by decide)
        omega
      have h2 : top * y ≤ x * y := Int.mul_le_mul_of_nonneg_right (by omega) hy
      unfold stop
      by_cases h3 : top * y > top
      · rw [if_pos h3, if_pos (by omega)]
      · have h4 : top * y = top := by omega
        rw [h4, if_neg (by omega)]
        by_cases h5 : x * y > top
        · rw [if_pos h5]
        · rw [if_neg h5]
          omega
  · have e : stop x = x := by unfold stop; rw [if_neg h]
    rw [e]
theorem plus_assoc' (a b c : Int) : plusI (plusI a b) c = plusI a (plusI b c) := by
  have ha := at0_bd a
  have hb := at0_bd b
  have hc := at0_bd c
  unfold plusI
  rw [at0_stop (by omega), at0_stop (by omega), stop_add (by omega) (by omega), Int.add_comm (at0 a) (stop _), stop_add (by omega) (by omega)]
  congr 1
  omega
theorem times_assoc' (a b c : Int) : timesI (timesI a b) c = timesI a (timesI b c) := by
  unfold timesI
  rw [at0_stop (times_nn a b), at0_stop (times_nn b c), stop_mul (times_nn a b) (at0_bd c).1, Int.mul_comm (at0 a) (stop _), stop_mul (times_nn b c) (at0_bd a).1]
  congr 1
  rw [Int.mul_assoc, Int.mul_comm]
/-- Power. -/
def powI (a k : Int) : Int := stop (at0 a ^ k.toNat)
theorem pow_nn (x : Int) (k : Nat) (h : 0 ≤ x) : 0 ≤ x ^ k := Int.pow_nonneg h
theorem powI_bd (a k : Int) : 0 ≤ powI a k ∧ powI a k ≤ top := stop_bd (pow_nn _ _ (at0_bd a).1)
theorem powI_zero (a k : Int) (h : k ≤ 0) : powI a k = 1 := by
  unfold powI
  rw [show k.toNat = 0 by omega, Int.pow_zero]
  decide
theorem powI_succ (a : Int) (n : Nat) : powI a ((n : Int) + 1) = timesI (powI a (n : Nat)) a := by
  unfold powI timesI
  have h := pow_nn (at0 a) n (at0_bd a).1
  rw [show ((n : Int) + 1).toNat = n + 1 by omega, show ((n : Nat) : Int).toNat = n by omega, at0_stop h, stop_mul h (at0_bd a).1, Int.pow_succ]
theorem pow_one_le {x : Int} (h : 1 ≤ x) : ∀ k : Nat, 1 ≤ x ^ k
  | 0 => by simp
  | k + 1 => by
    rw [Int.pow_succ]
    have h1 := pow_one_le h k
    have := Int.mul_le_mul_of_nonneg_left h (show (0 : Int) ≤ x ^ k by omega)
    omega
theorem pow_mono {x : Int} (h : 1 ≤ x) {i k : Nat} (hik : i ≤ k) : x ^ i ≤ x ^ k := by
  obtain ⟨d, rfl⟩ := Nat.exists_eq_add_of_le hik
  rw [Int.pow_add]
  have h1 := pow_one_le h d
  have h2 := pow_one_le h i
  have := Int.mul_le_mul_of_nonneg_left h1 (show (0 : Int) ≤ x ^ i by omega)
  omega
/-- Once it has stopped it stays so. -/
theorem stop_pow {x : Int} (h : 1 ≤ x) {i k : Nat} (hik : i ≤ k) (hs : stop (x ^ i) = top) : stop (x ^ k) = top := by
  have h1 := pow_mono h hik
  have h2 := stop_mono h1
  have h3 := (stop_bd (v := x ^ k) (by have := pow_one_le h k; omega)).2
  omega
/-- What a round of Power leaves. -/
structure PowS (x : Int) (k : Int) (i : Nat) (out : Int) : Prop where
  le : (i : Int) ≤ k
  eq : out = stop (x ^ i)
theorem PowS.start (x k : Int) (h : 0 ≤ k) : PowS x k 0 1 := ⟨by omega, by rw [Int.pow_zero]; decide⟩
theorem PowS.step {x k : Int} {i : Nat} {out : Int} (h : PowS x k i out) (hx : 0 ≤ x) (hxt : x ≤ top) (hi : (i : Int) < k) : PowS x k (i + 1) (timesI out x) := by
  have hp := pow_nn x i hx
  refine ⟨by omega, ?_⟩
  rw [h.eq]
  unfold timesI
  rw [at0_stop hp, at0_id hx hxt, stop_mul hp hx, Int.pow_succ]
theorem PowS.done {x k : Int} {i : Nat} {out : Int} (h : PowS x k i out) (hx : 1 ≤ x) (hxt : x ≤ top) (he : ¬ ((i : Int) < k ∧ out < top)) : out = powI x k := by
  unfold powI
  rw [at0_id (by omega) hxt, h.eq]
  by_cases hik : (i : Int) = k
  · rw [show k.toNat = i by omega]
  · have h1 := h.le
    have h2 := stop_bd (v := x ^ i) (pow_nn x i (by omega))
    have h3 : stop (x ^ i) = top := by
      have := h.eq
      omega
    rw [h3, stop_pow hx (i := i) (by omega) h3]
theorem pow_small (a : Int) (k : Int) (h0 : 0 ≤ a) (h1 : a < 2) (hk : 0 < k) : powI a k = a := by
  obtain ⟨n, hn⟩ : ∃ n : Nat, k.toNat = n + 1 := ⟨k.toNat - 1, by omega⟩
  unfold powI
  rw [at0_id h0 (by unfold top; omega), hn]
  rcases (show a = 0 ∨ a = 1 by omega) with rfl | rfl
  · rw [Int.pow_succ, Int.mul_zero]
    decide
  · rw [Int.one_pow]
    decide
/-! ### the power by squares -/
theorem stop_stop {x : Int} (hx : 0 ≤ x) : stop (stop x) = stop x := by
  unfold stop top
  split <;> (try split) <;> omega
theorem stop_mul_r {x y : Int} (hx : 0 ≤ x) (hy : 0 ≤ y) : stop (x * stop y) = stop (x * y) := by
  rw [Int.mul_comm x (stop y), stop_mul hy hx, Int.mul_comm y x]
theorem stop_pow_in {x y : Int} (hx : 0 ≤ x) (hy : 0 ≤ y) : ∀ n : Nat, stop (x * stop y ^ n) = stop (x * y ^ n)
  | 0 => by rw [Int.pow_zero, Int.pow_zero]
  | n + 1 => by
    have h1 := stop_pow_in hx hy n
    have hs := (stop_bd hy).1
    have p1 : 0 ≤ x * stop y ^ n := Int.mul_nonneg hx (pow_nn _ _ hs)
    have p2 : 0 ≤ x * y ^ n := Int.mul_nonneg hx (pow_nn _ _ hy)
    rw [Int.pow_succ, Int.pow_succ, ← Int.mul_assoc, ← Int.mul_assoc, ← stop_mul p1 hs, h1, stop_mul p2 hs, stop_mul_r p2 hy]
theorem pow_sq (a : Int) (n : Nat) : (a * a) ^ n = a ^ (2 * n) := by
  rw [Int.pow_mul, Int.pow_succ, Int.pow_succ, Int.pow_zero, Int.one_mul]
/-- What a round of the power by squares leaves: c is what is asked. -/
structure SqS (c p a : Int) (k : Int) : Prop where
  p0 : 0 ≤ p
  pt : p ≤ top
  a0 : 0 ≤ a
  at' : a ≤ top
  k0 : 0 ≤ k
  eq : stop (p * a ^ k.toNat) = c
theorem SqS.start {a k : Int} (h0 : 0 ≤ a) (h1 : a ≤ top) (hk : 0 ≤ k) : SqS (stop (a ^ k.toNat)) 1 a k := ⟨by omega, by decide, h0, h1, hk, by rw [Int.one_mul]⟩
theorem SqS.odd {c p a k : Int} (h : SqS c p a k) (hk : k % 2 = 1) : SqS c (stop (p * a)) (stop (a * a)) (k / 2) := by
  have h1 := Int.mul_nonneg h.p0 h.a0
  have h2 := Int.mul_nonneg h.a0 h.a0
  have hk0 := h.k0
  refine ⟨(stop_bd h1).1, (stop_bd h1).2, (stop_bd h2).1, (stop_bd h2).2, by omega, ?_⟩
  rw [stop_pow_in (stop_bd h1).1 h2, stop_mul h1 (pow_nn _ _ h2), pow_sq, ← h.eq, show k.toNat = 2 * (k / 2).toNat + 1 by omega, Int.pow_succ, Int.mul_assoc, Int.mul_comm a]
theorem SqS.even {c p a k : Int} (h : SqS c p a k) (hk : k % 2 = 0) : SqS c p (stop (a * a)) (k / 2) := by
  have h2 := Int.mul_nonneg h.a0 h.a0
  have hk0 := h.k0
  refine ⟨h.p0, h.pt, (stop_bd h2).1, (stop_bd h2).2, by omega, ?_⟩
  rw [stop_pow_in h.p0 h2, pow_sq, ← h.eq, show k.toNat = 2 * (k / 2).toNat by omega]
theorem SqS.done {c p a k : Int} (h : SqS c p a k) (hk : k ≤ 0) : p = c := by
  have h1 := h.eq
  have h0 := h.p0
  have ht := h.pt
  rw [show k.toNat = 0 by omega, Int.pow_zero, Int.mul_one] at h1
  rw [← h1]
  unfold stop
  rw [if_neg (by omega)]
/-- A great power of what is not small has stopped: holding the power itself does no harm. -/
theorem two_pow_le (x : Int) (h : 2 ≤ x) : ∀ n : Nat, (2 : Int) ^ n ≤ x ^ n
  | 0 => by rw [Int.pow_zero, Int.pow_zero]; omega
  | n + 1 => by
    have h1 := two_pow_le x h n
    have h2 : (0 : Int) ≤ 2 ^ n := pow_nn 2 n (by omega)
    rw [Int.pow_succ, Int.pow_succ]
    have h3 := Int.mul_le_mul_of_nonneg_left h (show (0 : Int) ≤ x ^ n by omega)
    omega
theorem pow_held (a k : Int) : stop (at0 a ^ (at0 k).toNat) = powI a k := by
  unfold powI
  have ha := at0_bd a
  by_cases hk : k ≤ top
  · by_cases h0 : 0 ≤ k
    · rw [at0_id h0 hk]
    · have e : at0 k = 0 := by unfold at0; rw [if_pos (by omega)]
      rw [e, show k.toNat = 0 by omega, show (0 : Int).toNat = 0 from rfl]
  · have e : at0 k = top := by
      unfold at0
      unfold top at hk ⊢
      rw [if_neg (by omega), if_pos (by omega)]
    have ht : (1 : Int) ≤ top := by decide
    rw [e]
    generalize hx : at0 a = x at ha ⊢
    by_cases h2 : 2 ≤ x
    · have h62 : stop (x ^ 62) = top := by
        have h1 := two_pow_le x h2 62
        have h3 : stop ((2 : Int) ^ 62) = top := by decide
        have h4 := stop_mono h1
        have h5 := (stop_bd (v := x ^ 62) (pow_nn x 62 (by omega))).2
        omega
      have g : 62 ≤ top.toNat := by decide
      rw [stop_pow (x := x) (i := 62) (by omega) g h62, stop_pow (x := x) (i := 62) (by omega) (by unfold top at hk; omega) h62]
    · obtain ⟨m, hm⟩ : ∃ m : Nat, top.toNat = m + 1 := ⟨top.toNat - 1, by omega⟩
      obtain ⟨m', hm'⟩ : ∃ m : Nat, k.toNat = m + 1 := ⟨k.toNat - 1, by omega⟩
      rw [hm, hm']
      rcases (show x = 0 ∨ x = 1 by omega) with rfl | rfl
      · rw [Int.pow_succ, Int.pow_succ, Int.mul_zero, Int.mul_zero]
      · rw [Int.one_pow, Int.one_pow]
/-- Whether a product is more than the greatest, by dividing. -/
theorem div_gt {a b : Int} (hb : 0 < b) : top / b < a ↔ top < a * b := Int.ediv_lt_iff_lt_mul hb
theorem stop_more {v : Int} (h : top < v) : stop v = top := by unfold stop; rw [if_pos h]
theorem stop_less {v : Int} (h : v ≤ top) : stop v = v := by unfold stop; rw [if_neg (by omega)]
theorem powI_step (a m : Int) (h : 0 ≤ m) : timesI (powI a m) a = powI a (m + 1) := by
  have := powI_succ a m.toNat
  rw [show ((m.toNat : Nat) : Int) = m by omega] at this
  exact this.symm
theorem two_small (m : Int) (h0 : 0 ≤ m) (h1 : m < 62) : powI 2 m = 2 ^ m.toNat ∧ (0 : Int) ≤ 2 ^ m.toNat ∧ (2 : Int) ^ m.toNat ≤ top := by
  have h2 : (2 : Int) ^ m.toNat ≤ 2 ^ 62 := pow_mono (by omega) (by omega)
  have h3 : (2 : Int) ^ 62 = top := by decide
  have h4 : at0 2 = 2 := by decide
  refine ⟨?_, pow_nn _ _ (by omega), by omega⟩
  unfold powI
  rw [h4, stop_less (by omega)]
theorem two_great (m : Int) (h : 62 ≤ m) : powI 2 m = top := by
  unfold powI
  rw [show at0 2 = 2 by decide]
  exact stop_pow (x := 2) (i := 62) (by omega) (by omega) (by decide)
end Go.Proofs.YtchokfgffnomoaaDoor.V
/-
  PLAIN MATHEMATICS of what expressions come to: by going in so many steps at most. It proves nothing of Go.
-/
namespace Go.Proofs.YtchokfgffnomoaaDoor.P
set_option maxRecDepth 100000
set_option linter.unusedVariables false
set_option linter.unusedSimpArgs false
/-- The place of a name: of the first one; -1: none. -/
def plI (s : List UInt8) : List (List UInt8) → Int
  | [] => -1
  | r :: rs => if r = s then 0 else if plI s rs < 0 then -1 else plI s rs + 1
theorem plI_none {s : List UInt8} : ∀ {rs : List (List UInt8)}, (∀ i, i < rs.length → rs.getD i [] ≠ s) → plI s rs = -1
  | [], _ => rfl
  | r :: rs, h => by
    have h0 : r ≠ s := h 0 (by simp)
    have ih := plI_none (s := s) (rs := rs) (fun i hi => h (i + 1) (by simp; omega))
    rw [plI, if_neg h0, ih]
    rfl
theorem plI_at {s : List UInt8} : ∀ {rs : List (List UInt8)} {k : Nat}, k < rs.length → (∀ i, i < k → rs.getD i [] ≠ s) → rs.getD k [] = s → plI s rs = k
  | [], k, hk, _, _ => by simp at hk
  | r :: rs, 0, hk, _, h => by
    have h0 : r = s := h
    rw [plI, if_pos h0]
    rfl
  | r :: rs, k + 1, hk, hn, h => by
    have h0 : r ≠ s := hn 0 (by omega)
    have ih := plI_at (s := s) (rs := rs) (k := k) (by simp at hk; omega) (fun i hi => hn (i + 1) (by omega)) h
    rw [plI, if_neg h0, ih, if_neg (by omega)]
    omega
theorem plI_bd (s : List UInt8) : ∀ rs : List (List UInt8), -1 ≤ plI s rs ∧ plI s rs < rs.length
  | [] => by simp [plI]
  | r :: rs => by
    have ih := plI_bd s rs
    unfold plI
    simp only [List.length_cons]
    split
    · omega
    · split <;> omega
/-- What an Op makes of two. -/
def jn (o x y n : Int) : Int := if o = 3 then V.addI x y n else if o = 4 then V.subI x y n else if o = 5 then (if x = y then 1 else 0) else (if x < y then 1 else 0)
/-- What an expression comes to, by so many steps inwards at most. -/
def ev (rs : List (List UInt8)) (vs : List Int) (n : Int) : Nat → EX → Option Int
  | 0, _ => none
  | m + 1, .mk o k s ks =>
    if o = 1 then some (V.inI k n)
    else if o = 2 then (if plI s rs < 0 then none else some (V.inI (vs.getD (plI s rs).toNat 0) n))
    else if 3 ≤ o ∧ o ≤ 6 then
      (match ks with
      | [a, b] => (match ev rs vs n m a with
        | none => none
        | some x => (match ev rs vs n m b with
          | none => none
          | some y => some (jn o x y n)))
      | _ => none)
    else none
theorem jn_bd {o x y n : Int} (hn : 2 ≤ n ∧ n ≤ 4) : 0 ≤ jn o x y n ∧ jn o x y n < n := by
  have h1 := V.inI_bd (v := x + y) (n := n) (by omega)
  have h2 := V.inI_bd (v := x - y) (n := n) (by omega)
  unfold jn V.addI V.subI
  repeat (first | omega | split)
theorem ev_bd {rs : List (List UInt8)} {vs : List Int} {n : Int} (hn : 2 ≤ n ∧ n ≤ 4) : ∀ (m : Nat) (e : EX) (x : Int), ev rs vs n m e = some x → 0 ≤ x ∧ x < n
  | 0, _, x, h => by cases h
  | m + 1, .mk o k s ks, x, h => by
    unfold ev at h
    split at h
    · cases h
      exact V.inI_bd (by omega)
    split at h
    · split at h
      · cases h
      · cases h
        exact V.inI_bd (by omega)
    split at h
    · split at h
      · split at h
        · cases h
        · split at h
          · cases h
          · cases h
            exact jn_bd hn
      · cases h
    · cases h
theorem ev_num (rs : List (List UInt8)) (vs : List Int) (n : Int) (m : Nat) (k : Int) (s : List UInt8) (ks : List EX) : ev rs vs n (m + 1) (.mk 1 k s ks) = some (V.inI k n) := rfl
theorem ev_reg (rs : List (List UInt8)) (vs : List Int) (n : Int) (m : Nat) (k : Int) (s : List UInt8) (ks : List EX) : ev rs vs n (m + 1) (.mk 2 k s ks) = if plI s rs < 0 then none else some (V.inI (vs.getD (plI s rs).toNat 0) n) := rfl
/-- What two come to. -/
def ev2 (rs : List (List UInt8)) (vs : List Int) (n : Int) (m : Nat) (o : Int) (a b : EX) : Option Int :=
  match ev rs vs n m a with
  | none => none
  | some x => (match ev rs vs n m b with
    | none => none
    | some y => some (jn o x y n))
theorem ev_two {o : Int} (h : 3 ≤ o ∧ o ≤ 6) (rs : List (List UInt8)) (vs : List Int) (n : Int) (m : Nat) (k : Int) (s : List UInt8) (a b : EX) : ev rs vs n (m + 1) (.mk o k s [a, b]) = ev2 rs vs n m o a b := by
  unfold ev ev2
  rw [if_neg (by omega), if_neg (by omega), if_pos h]
theorem ev_kids {o : Int} (h : 3 ≤ o ∧ o ≤ 6) (rs : List (List UInt8)) (vs : List Int) (n : Int) (m : Nat) (k : Int) (s : List UInt8) (ks : List EX) (hk : ks.length ≠ 2) : ev rs vs n (m + 1) (.mk o k s ks) = none := by
  unfold ev
  rw [if_neg (by omega), if_neg (by omega), if_pos h]
  rcases ks with _ | ⟨a, _ | ⟨b, _ | ⟨c, r⟩⟩⟩
  · rfl
  · rfl
  · exact absurd rfl hk
  · rfl
theorem ev_odd {o : Int} (h1 : o ≠ 1) (h2 : o ≠ 2) (h : ¬ (3 ≤ o ∧ o ≤ 6)) (rs : List (List UInt8)) (vs : List Int) (n : Int) (m : Nat) (k : Int) (s : List UInt8) (ks : List EX) : ev rs vs n m (.mk o k s ks) = none := by
  cases m
  · rfl
  · unfold ev
    rw [if_neg h1, if_neg h2, if_neg h]
/-- What an expression comes to, where there are n values. -/
def evA (rs : List (List UInt8)) (vs : List Int) (n : Int) (e : EX) : Option Int := if 2 ≤ n ∧ n ≤ 4 ∧ vs.length = rs.length then ev rs vs n 6 e else none
mutual
/-- How many expressions within one another are asked. -/
def askD : EX → Nat
  | .mk o _ _ ks => if o = 1 ∨ o = 2 then 1 else askDs ks + 1
def askDs : List EX → Nat
  | [] => 0
  | e :: es => max (askD e) (askDs es)
end
theorem askL_mem : ∀ {es : List EX} {e : EX}, e ∈ es → askD e ≤ askDs es
  | x :: es, e, h => by
    unfold askDs
    rcases List.mem_cons.1 h with rfl | h
    · omega
    · have := askL_mem h
      omega
theorem ask_two {o k : Int} {s : List UInt8} {a b : EX} (h : 3 ≤ o ∧ o ≤ 6) : askD (.mk o k s [a, b]) = max (askD a) (askD b) + 1 := by
  have h0 : askD (.mk o k s [a, b]) = askDs [a, b] + 1 := by
    unfold askD
    rw [if_neg (by omega)]
  have h1 : askDs [a, b] = max (askD a) (askDs [b]) := by rw [askDs]
  have h2 : askDs [b] = max (askD b) 0 := by rw [askDs, askDs]
  rw [h0, h1, h2]
  omega
theorem ask_pos (e : EX) : 1 ≤ askD e := by
  cases e
  unfold askD
  split <;> omega
/-- What is deeper than the steps that may be gone comes to nothing. -/
theorem ev_deep {rs : List (List UInt8)} {vs : List Int} {n : Int} : ∀ (m : Nat) (e : EX), m < askD e → ev rs vs n m e = none
  | 0, _, _ => rfl
  | m + 1, .mk o k s ks, h => by
    by_cases h1 : o = 1
    · unfold askD at h
      rw [if_pos (.inl h1)] at h
      omega
    by_cases h2 : o = 2
    · unfold askD at h
      rw [if_pos (.inr h2)] at h
      omega
    by_cases ho : 3 ≤ o ∧ o ≤ 6
    · by_cases hk : ks.length = 2
      · rcases ks with _ | ⟨a, _ | ⟨b, _ | ⟨c, r⟩⟩⟩ <;> simp at hk
        rw [ask_two ho] at h
        rw [ev_two ho]
        unfold ev2
        by_cases ha : m < askD a
        · rw [ev_deep m a ha]
        · have hb : m < askD b := by omega
          rw [ev_deep m b hb]
          split <;> rfl
      · exact ev_kids ho rs vs n m k s ks hk
    · exact ev_odd h1 h2 ho rs vs n (m + 1) k s ks
/-- How many steps there are beyond what is asked plays no part. -/
theorem ev_more {rs : List (List UInt8)} {vs : List Int} {n : Int} : ∀ (m m' : Nat) (e : EX), askD e ≤ m → askD e ≤ m' → ev rs vs n m e = ev rs vs n m' e
  | 0, m', e, h, h' => by
    have := ask_pos e
    omega
  | m + 1, 0, e, h, h' => by
    have := ask_pos e
    omega
  | m + 1, m' + 1, .mk o k s ks, h, h' => by
    by_cases h1 : o = 1
    · subst h1
      rfl
    by_cases h2 : o = 2
    · subst h2
      rfl
    by_cases ho : 3 ≤ o ∧ o ≤ 6
    · by_cases hk : ks.length = 2
      · rcases ks with _ | ⟨a, _ | ⟨b, _ | ⟨c, r⟩⟩⟩ <;> simp at hk
        rw [ask_two ho] at h h'
        rw [ev_two ho, ev_two ho]
        unfold ev2
        rw [ev_more m m' a (by omega) (by omega), ev_more m m' b (by omega) (by omega)]
      · rw [ev_kids ho rs vs n m k s ks hk, ev_kids ho rs vs n m' k s ks hk]
    · rw [ev_odd h1 h2 ho, ev_odd h1 h2 ho]
/-- The most parts that are looked at. -/
def mostP : Nat := 300
mutual
/-- How many parts an expression has, as it is counted. -/
def szX : Nat → EX → Nat
  | d, .mk o k s ks => if 12 < d ∨ 20 < ks.length ∨ 40 < s.length then 301 else szL (d + 1) 1 ks
def szL : Nat → Nat → List EX → Nat
  | d, n, [] => n
  | d, n, e :: es => if 300 < n + szX d e then n + szX d e else szL d (n + szX d e) es
end
theorem szL_le : ∀ (d n : Nat) (es : List EX), n ≤ szL d n es
  | d, n, [] => by
    unfold szL
    exact Nat.le_refl _
  | d, n, e :: es => by
    unfold szL
    split
    · omega
    · have := szL_le d (n + szX d e) es
      omega
theorem szL_mem : ∀ {d n : Nat} {es : List EX}, szL d n es ≤ 300 → ∀ e ∈ es, szX d e ≤ 300
  | d, n, x :: es, h, e, he => by
    unfold szL at h
    split at h
    · omega
    · have h1 := szL_le d (n + szX d x) es
      rcases List.mem_cons.1 he with rfl | he
      · omega
      · exact szL_mem h e he
theorem szX_kids {d : Nat} {o k : Int} {s : List UInt8} {ks : List EX} (h : szX d (.mk o k s ks) ≤ 300) : d ≤ 12 ∧ ks.length ≤ 20 ∧ s.length ≤ 40 ∧ ∀ e ∈ ks, szX (d + 1) e ≤ 300 := by
  unfold szX at h
  split at h
  · omega
  · exact ⟨by omega, by omega, by omega, szL_mem h⟩
theorem askL_le {m : Nat} : ∀ {es : List EX}, (∀ e ∈ es, askD e ≤ m) → askDs es ≤ m
  | [], _ => by
    unfold askDs
    omega
  | e :: es, h => by
    unfold askDs
    have h1 := h e (.head _)
    have h2 := askL_le (m := m) (es := es) (fun x hx => h x (.tail _ hx))
    omega
/-- What is counted within bounds is not deep. -/
theorem ask_le : ∀ (j d : Nat) (e : EX), 13 - d = j → szX d e ≤ 300 → askD e ≤ j
  | 0, d, .mk o k s ks, hj, h => by
    have := szX_kids h
    omega
  | j + 1, d, .mk o k s ks, hj, h => by
    have ⟨h1, h2, h3, h4⟩ := szX_kids h
    unfold askD
    split
    · omega
    · have := askL_le (m := j) (es := ks) (fun e he => ask_le j (d + 1) e (by omega) (h4 e he))
      omega
theorem szX_bd : ∀ (j d : Nat) (e : EX), 13 - d = j → szX d e ≤ 301 + 300 * j
  | 0, d, .mk o k s ks, hj => by
    unfold szX
    rw [if_pos (by omega)]
    omega
  | j + 1, d, .mk o k s ks, hj => by
    unfold szX
    split
    · omega
    · have hl : ∀ (es : List EX) (n : Nat), n ≤ 300 → szL (d + 1) n es ≤ 301 + 300 * (j + 1) := by
        intro es
        induction es with
        | nil =>
          intro n hn
          unfold szL
          omega
        | cons e es ih =>
          intro n hn
          have h1 := szX_bd j (d + 1) e (by omega)
          unfold szL
          split
          · omega
          · exact ih _ (by omega)
      exact hl ks 1 (by omega)
theorem szX_le (d : Nat) (e : EX) : szX d e ≤ 5000 := by
  have := szX_bd (13 - d) d e rfl
  omega
end Go.Proofs.YtchokfgffnomoaaDoor.P
/-
  What ExprSize tells, as a contract: how many parts an expression has.
-/

namespace Go.Proofs.YtchokfgffnomoaaDoor.Lx
open Go.RowKit
open P (EX ev ev2 plI jn evA askD askDs szX szL)
set_option maxRecDepth 100000
set_option linter.unusedVariables false
set_option linter.unusedSimpArgs false

theorem szL_nil (d n : Nat) : szL d n [] = n := by unfold P.szL; rfl
theorem szL_cons (d n : Nat) (e : EX) (es : List EX) : szL d n (e :: es) = if 300 < n + szX d e then n + szX d e else szL d (n + szX d e) es := by rw [P.szL]
theorem szX_no {d : Nat} {o k : Int} {s : List UInt8} {ks : List EX} (h : 12 < d ∨ 20 < ks.length ∨ 40 < s.length) : szX d (.mk o k s ks) = 301 := by
  unfold P.szX
  rw [if_pos h]
theorem szX_go {d : Nat} {o k : Int} {s : List UInt8} {ks : List EX} (h : ¬ (12 < d ∨ 20 < ks.length ∨ 40 < s.length)) : szX d (.mk o k s ks) = szL (d + 1) 1 ks := by
  unfold P.szX
  rw [if_neg h]
theorem szL_step {d n j : Nat} {ks : List EX} {x : EX} (h : ks[j]? = some x) : szL d n (ks.drop j) = if 300 < n + szX d x then n + szX d x else szL d (n + szX d x) (ks.drop (j + 1)) := by
  obtain ⟨hj, he⟩ := List.getElem?_eq_some_iff.1 h
  rw [List.drop_eq_getElem_cons hj, he]
  exact szL_cons d n x _
def SizeTo (r : Nat) (w : World) (e : Ending) (w' : World) : Prop := e = .returned (.int .i64 (r : Nat)) ∧ Below w.heap.size w w'
theorem one_belowX (w : World) (o : Obj) : Below w.heap.size w (w.alloc o) := (Below.refl _ _).alloc (Nat.le_refl _) _
set_option maxHeartbeats 6400000 in
theorem size_step : ∀ (d : Nat) (e : EX), d ≤ 1000 → (∀ (x : EX), d ≤ 12 → wfX x → ∀ (v : Value) (w : World), LX (fun _ => True) w v x → Calls Tryd.prog 10 #[v, .int .i64 ((d : Int) + 1)] w (SizeTo (szX (d + 1) x) w)) → ∀ (z : Int) (v : Value) (w : World), z = (d : Nat) → LX (fun _ => True) w v e → wfX e → Calls Tryd.prog 10 #[v, .int .i64 z] w (SizeTo (szX d e) w)
  | d, .mk op k s ks, hdm, IH, z, v, w, hz, hv, hw => by
    subst hz
    have hv0 := hv
    unfold LX at hv0
    obtain ⟨a, cap, rfl, hmx, hc⟩ := hv0
    unfold maxLen at hmx
    unfold wfX at hw
    obtain ⟨_, _, hsl, hks⟩ := hw
    unfold maxLen at hsl
    have HB := Lib.hid (one_belowX w (.cells #[.int .i64 op, .int .i64 k, .string (bs s), .slice a ks.length cap] 31))
    have hS : (bs s).size = s.length := bs_size s
    by_cases h1 : 12 < d
    · rw [szX_no (.inl h1)]
      have d1 : decide ((12 : Int) < (d : Int)) = true := decide_eq_true (by omega)
      have d2 : decide (12 < d) = true := decide_eq_true (by omega)
      clear hv hc hks hS hsl IH
      generalize bs s = S at *
      go_enter Tryd.func10, Tryd.ntmps10
      go_wp2_with fail
      go_ret
      exact ⟨rfl, HB.out⟩
    have d1 : decide ((12 : Int) < (d : Int)) = false := decide_eq_false (by omega)
    have d2 : decide (12 < d) = false := decide_eq_false (by omega)
    by_cases h2 : 20 < ks.length
    · rw [szX_no (.inr (.inl h2))]
      have d3 : decide ((20 : Int) < (ks.length : Int)) = true := decide_eq_true (by omega)
      have d4 : decide (20 < ks.length) = true := decide_eq_true (by omega)
      clear hv hc hks hS hsl IH
      generalize bs s = S at *
      go_enter Tryd.func10, Tryd.ntmps10
      go_wp2_with fail
      go_ret
      exact ⟨rfl, HB.out⟩
    have d3 : decide ((20 : Int) < (ks.length : Int)) = false := decide_eq_false (by omega)
    have d4 : decide (20 < ks.length) = false := decide_eq_false (by omega)
    by_cases h3 : 40 < s.length
    · rw [szX_no (.inr (.inr h3))]
      rw [← hS] at h3
      clear hv hc hks hS hsl IH
      generalize bs s = S at *
      have d5 : decide ((40 : Int) < (S.size : Int)) = true := decide_eq_true (by omega)
      have d6 : decide (40 < S.size) = true := decide_eq_true (by omega)
      go_enter Tryd.func10, Tryd.ntmps10
      go_wp2_with fail
      go_ret
      exact ⟨rfl, HB.out⟩
    rw [szX_go (by omega)]
    rw [← hS] at h3
    have HC := Lib.hid hc
    have HQ := Lib.hid (Blk.new w 31 #[.int .i64 op, .int .i64 k, .string (bs s), .slice a ks.length cap])
    have HA := Lib.hid (show ∀ j e, ks[j]? = some e → ∀ v w, LX (fun _ => True) w v e → Calls Tryd.prog 10 #[v, .int .i64 ((d : Int) + 1)] w (SizeTo (szX (d + 1) e) w) from fun j e he v w hv => IH e (by omega) (wfXs_mem hks e (List.mem_of_getElem? he)) v w hv)
    clear IH
    clear hv hc hks hS hsl
    generalize bs s = S at *
    have d5 : decide ((40 : Int) < (S.size : Int)) = false := decide_eq_false (by omega)
    have d6 : decide (40 < S.size) = false := decide_eq_false (by omega)
    generalize hT : szL (d + 1) 1 ks = T at *
    have HT := Lib.hid hT
    clear hT
    go_enter Tryd.func10, Tryd.ntmps10
    go_wp2_with fail
    generalize hW : w.alloc (.cells #[.int .i64 op, .int .i64 k, .string S, .slice a ks.length cap] 31) = W at *
    have hwl : w.heap.size < W.heap.size := HQ.out.lt
    clear hW
    go_loopw [5, 6] (fun n i wr => (∃ j N : Nat, j ≤ ks.length ∧ N ≤ 300 ∧ i = .int .i64 (j : Nat) ∧ n = .int .i64 (N : Nat) ∧ szL (d + 1) N (ks.drop j) = T) ∧ Below W.heap.size W wr) (fun _ i _ => ks.length - (intOf i).toNat)
    case atStart => exact ⟨⟨0, 1, Nat.zero_le _, by omega, rfl, rfl, by rw [List.drop_zero]; exact HT.out⟩, Below.refl _ _⟩
    case round =>
      obtain ⟨⟨j, N, hj, hN, rfl, rfl, hrest⟩, hbr⟩ := hrel
      have HBR := Lib.hid hbr
      obtain ⟨p0, p1, p2, p3, _, _, _, _⟩ := four_free (HQ.out.live' hbr)
      clear hbr
      by_cases hlt : j < ks.length
      · obtain ⟨g, off, rfl, _, hs⟩ : ∃ g off, a = some ⟨g, off, none⟩ ∧ True ∧ LXs (fun _ => True) w g off ks := by
          rcases HC.out with h0 | h0
          · rw [h0] at hlt
            simp at hlt
          · exact h0
        obtain ⟨x, a0, a1, a2, a3, hx, k0, k1, k2, k3, hlx⟩ := LXs.at ks hs j hlt
        have hbw := HB.out.trans (HBR.out.mono HB.out.size)
        have hq : ∀ (o : Nat) (u : Value), w.cell? ⟨g, o, none⟩ = some u → wr.cell? ⟨g, o, none⟩ = some u := fun o u hu => (hbw.cell (p := ⟨g, o, none⟩) (World.block_lt_of_cell? w _ hu)).trans hu
        have c0 := hq _ _ k0
        have c1 := hq _ _ k1
        have c2 := hq _ _ k2
        have c3 := hq _ _ k3
        have HX := Lib.hid (HA.out j x hx _ wr (LX.keep (Keeps.below hbw (Nat.le_refl _)) x hlx))
        rw [szL_step hx] at hrest
        have hxb := P.szX_le (d + 1) x
        have d7 : (0 : Int) ≤ (j : Int) := by omega
        have d8 : (j : Int) < (ks.length : Int) := by omega
        have d9 : decide ((j : Int) < (ks.length : Int)) = true := by simpa using hlt
        have d10 : decide (j < ks.length) = true := by simpa using hlt
        clear hs hx k0 k1 k2 k3 hlx hbw hq
        generalize szX (d + 1) x = R at *
        by_cases hbig : 300 < N + R
        · rw [if_pos hbig] at hrest
          have HRS := Lib.hid hrest
          have e1 : decide ((300 : Int) < (N : Int) + (R : Int)) = true := decide_eq_true (by omega)
          clear hrest
          go_wp2_with fail
          with_reducible refine HX.out.mono ?_
          rintro e w2 ⟨rfl, hb2⟩
          go_wp2_with fail
          go_ret
          exact ⟨congrArg (fun z => Ending.returned (.int .i64 z)) (by rw [← HRS.out]; omega), HB.out.trans ((HBR.out.trans (hb2.mono HBR.out.size)).mono HB.out.size)⟩
        · rw [if_neg hbig] at hrest
          have HRS := Lib.hid hrest
          have e1 : decide ((300 : Int) < (N : Int) + (R : Int)) = false := decide_eq_false (by omega)
          clear hrest
          go_wp2_with fail
          with_reducible refine HX.out.mono ?_
          rintro e w2 ⟨rfl, hb2⟩
          go_wp2_with fail
          go_roundw
          case rel => exact ⟨⟨j + 1, N + R, by omega, by omega, by go_num, by go_num, HRS.out⟩, HBR.out.trans (hb2.mono HBR.out.size)⟩
          case measure => simp [intOf]; omega
      · obtain rfl : j = ks.length := by omega
        have d9 : decide ((ks.length : Int) < (ks.length : Int)) = false := by simp
        have d10 : decide (ks.length < ks.length) = false := by simp
        rw [List.drop_length] at hrest
        have HRS := Lib.hid (show N = T by rw [← hrest]; exact (szL_nil (d + 1) N).symm)
        clear hlt hrest
        go_wp2_with fail
        go_ret
        exact ⟨congrArg (fun z : Nat => Ending.returned (.int .i64 (z : Nat))) HRS.out, HB.out.trans (HBR.out.mono HB.out.size)⟩
theorem size_any : ∀ (f d : Nat) (e : EX), 13 - d ≤ f → d ≤ 1000 → ∀ (z : Int) (v : Value) (w : World), z = (d : Nat) → LX (fun _ => True) w v e → wfX e → Calls Tryd.prog 10 #[v, .int .i64 z] w (SizeTo (szX d e) w)
  | 0, d, e, hf, hd => size_step d e hd (fun x h => absurd h (by omega))
  | f + 1, d, e, hf, hd => size_step d e hd (fun x h hw v w hv => size_any f (d + 1) x (by omega) (by omega) _ v w (by omega) hv hw)
end Go.Proofs.YtchokfgffnomoaaDoor.Lx
