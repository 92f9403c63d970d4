/-
  What Made and Prog of a maker tell, as contracts: a program that is made of bytes that came in.
-/
import Derived.Test.YtihhkppimeagfaaMProg
namespace Go.Proofs.Ytihhkppimeagfaa.Lx
open Go.RowKit
open P (EX CO ST PG MP)
set_option maxRecDepth 100000
set_option linter.unusedVariables false
set_option linter.unusedSimpArgs false
/-- A maker is told. -/
def MadeTo (w : World) (e : Ending) (w' : World) : Prop := ∃ M, e = .returned (.pointer (some ⟨M, 0, none⟩)) ∧ Mk w'.heap.size w' M ∧ w.heap.size ≤ M ∧ Below w.heap.size w w'
theorem made_any (a : Option Addr) (len cap : Nat) (xs : List Nat) (w : World) (h : IsBytes w a len xs) : Calls Try.prog 7 #[.slice a len cap] w (MadeTo w) := by
  have hmk : Mk (w.alloc (.cells #[.slice a len cap, .int .i64 0] 60)).heap.size (w.alloc (.cells #[.slice a len cap, .int .i64 0] 60)) w.heap.size := by
    obtain ⟨hl, hm, hw, hc⟩ := h
    refine ⟨a, len, cap, 0, Blk.new w 60 #[.slice a len cap, .int .i64 0], by simp, Nat.le_refl _, Nat.zero_le _, hm, fun i hi => ?_⟩
    rcases hc with h0 | ⟨b, off, ha, hc⟩
    · omega
    · have h1 := hc i hi
      have hb := World.block_lt_of_cell? w _ h1
      have hb' : b < w.heap.size := hb
      have hO : Only (fun _ => False) w (w.alloc (.cells #[.slice a len cap, .int .i64 0] 60)) := (Only.refl _ w).alloc _
      exact ⟨b, off, xs.getD i 0, ha, by omega, by simp; omega, hw i, hO.cell h1 id⟩
  have HMK := Lib.hid hmk
  have hb : Below w.heap.size w (w.alloc (.cells #[.slice a len cap, .int .i64 0] 60)) := (Below.refl _ _).alloc (Nat.le_refl _) _
  have HB := Lib.hid hb
  clear hmk hb h
  go_enter Try.func7, Try.ntmps7
  go_wp2_with fail
  go_ret
  exact ⟨_, rfl, HMK.out, Nat.le_refl _, HB.out⟩
theorem mprog_at (B M v k t m d : Nat) (zt zm zd : Int) (w : World) (hv1 : 1 ≤ v) (hv : v ≤ 9) (hk1 : 1 ≤ k) (hk4 : k ≤ 4) (ht1 : 1 ≤ t) (ht4 : t ≤ 10) (hm : m ≤ 90) (hd : d ≤ 5) (et : zt = (t : Int)) (em : zm = (m : Int)) (ed : zd = (d : Int)) (h : Mk B w M) :
    Calls Try.prog 16 #[.pointer (some ⟨M, 0, none⟩), .agg #[.int .i64 (v : Nat), .int .i64 (k : Nat), .bool false, .bool false], .int .i64 zt, .int .i64 zm, .int .i64 zd] w (MpTo B M v k t m d w) := by
  subst et em ed
  exact mprog_any B M v k t m d hv1 hv hk1 hk4 ht1 ht4 hm hd w h
/-- A program that is made is told. -/
def ProgTo (B M : Nat) (w : World) (e : Ending) (w' : World) : Prop := ∃ vp p v k, e = .returned vp ∧ LPg (From w.heap.size) w' vp p ∧ MP v k 4 1 p ∧ 2 ≤ v ∧ v ≤ 4 ∧ 1 ≤ k ∧ k ≤ 4 ∧ 1 ≤ p.threads.length ∧ p.threads.length ≤ 4 ∧ Mk B w' M ∧ Only (· = M) w w'
theorem prog7_done {B M v k t R : Nat} {w w3 w4 : World} {nm st : ByteArray} {vs ak o tt n : Int} {vi vt : Value} {a : Option Addr} {m c : Nat} {p : PG} (hMB : M < B ∧ B ≤ w.heap.size) (hv1 : 2 ≤ v) (hv : v ≤ 4) (hk1 : 1 ≤ k) (hk : k ≤ 4) (ht1 : 1 ≤ t) (ht : t ≤ 4) (hR : w.heap.size ≤ R) (hR3 : R < w3.heap.size) (hO : Only (· = M) w w4)
    (hl : LPg (From w3.heap.size) w4 (.agg #[.string nm, .int .i64 vs, vi, vt, .int .i64 ak, .int .i64 o, .int .i64 tt, .string st, .int .i64 n, .slice a m c]) p) (hmp : MP v k 4 1 p) (hpt : p.threads.length = t) (hm : Mk B w4 M) :
    ProgTo B M w (.returned (.agg #[.string nm, .int .i64 vs, vi, vt, .int .i64 ak, .int .i64 o, .int .i64 tt, .string st, .int .i64 n, .slice a m c])) (put10w w4 R (.string nm) (.int .i64 vs) vi vt (.int .i64 ak) (.int .i64 o) (.int .i64 tt) (.string st) (.int .i64 n) (.slice a m c)) := by
  have hq : Only (fun b => b = R) w4 (put10w w4 R (.string nm) (.int .i64 vs) vi vt (.int .i64 ak) (.int .i64 o) (.int .i64 tt) (.string st) (.int .i64 n) (.slice a m c)) := Only.put10 (Only.refl (fun b => b = R) w4) (.inl rfl) _ _ _ _ _ _ _ _ _ _
  exact ⟨_, p, v, k, rfl, hl.step (fun b hb hl => by
    have hb' : w3.heap.size ≤ b := hb
    exact ⟨by show w.heap.size ≤ b; omega, hq.block b hl (by omega)⟩), hmp, hv1, hv, hk1, hk, by omega, by omega, hm.only hq (fun g hg e => by omega), hO.then hq (fun b hb => .inr (by omega))⟩
set_option maxHeartbeats 3200000 in
theorem prog7_any (B M : Nat) (w : World) (h : Mk B w M) : Calls Try.prog 8 #[.pointer (some ⟨M, 0, none⟩)] w (ProgTo B M w) := by
  have hMB := h.le
  have hb0 : Below w.heap.size w (w.alloc (.cells (zp10 ⟨#[]⟩ 0 (.slice none 0 0) (.slice none 0 0) 0) 30)) := (Below.refl _ _).alloc (Nat.le_refl _) _
  have HM0 := Lib.hid (h.below hb0)
  have HR0 := Lib.hid (Blk.new w 30 (zp10 ⟨#[]⟩ 0 (.slice none 0 0) (.slice none 0 0) 0))
  have HO0 := Lib.hid (Only.of_below (S := (· = M)) hb0)
  have hs0 : (w.alloc (.cells (zp10 ⟨#[]⟩ 0 (.slice none 0 0) (.slice none 0 0) 0) 30)).heap.size = w.heap.size + 1 := by simp
  clear hb0 h
  go_enter Try.func8, Try.ntmps8
  go_wp2_with fail
  generalize w.alloc (.cells (zp10 ⟨#[]⟩ 0 (.slice none 0 0) (.slice none 0 0) 0) 30) = w0 at *
  with_reducible refine (pick_at B M 3 3 w0 HM0.out (by omega) (by omega) rfl).mono ?_
  rintro e w1 ⟨r1, rfl, hr1, hm1, ho1⟩
  have HM1 := Lib.hid hm1
  have HO1 := Lib.hid (HO0.out.trans ho1)
  have hs1 := ho1.size
  have HR1 := Lib.hid (HR0.out.only ho1 (by omega))
  clear hm1 ho1 HM0 HO0 HR0
  go_wp2_with fail
  with_reducible refine (pick_at B M 4 4 w1 HM1.out (by omega) (by omega) rfl).mono ?_
  rintro e w2 ⟨r2, rfl, hr2, hm2, ho2⟩
  have HM2 := Lib.hid hm2
  have HO2 := Lib.hid (HO1.out.trans ho2)
  have hs2 := ho2.size
  have HR2 := Lib.hid (HR1.out.only ho2 (by omega))
  clear hm2 ho2 HM1 HO1 HR1
  go_upto_region 2 with (fail)
  obtain ⟨v, ev⟩ : ∃ v : Nat, v = 2 + r1 := ⟨_, rfl⟩
  obtain ⟨k, ek⟩ : ∃ k : Nat, k = 1 + r2 := ⟨_, rfl⟩
  rw [show (2 + (r1 : Int)) = (v : Int) by omega, show (1 + (r2 : Int)) = (k : Int) by omega]
  have v1 : 2 ≤ v := by omega
  have v2 : v ≤ 4 := by omega
  have k1 : 1 ≤ k := by omega
  have k2 : k ≤ 4 := by omega
  clear ev ek
  have hb3 : Below w2.heap.size w2 (w2.alloc (.cells #[.int .i64 (v : Nat), .int .i64 (k : Nat), .bool false, .bool false] 63)) := (Below.refl _ _).alloc (Nat.le_refl _) _
  have HS3 := Lib.hid (Blk.new w2 63 #[.int .i64 (v : Nat), .int .i64 (k : Nat), .bool false, .bool false])
  have HM3 := Lib.hid (HM2.out.below hb3)
  have HO3 := Lib.hid (HO2.out.trans (Only.of_below hb3))
  have HR3 := Lib.hid (HR2.out.live' hb3)
  have hs3 := hb3.size
  have hSl : w.heap.size < w2.heap.size := by have := HR2.out.lt; omega
  clear hb3 HM2 HO2 HR2
  generalize w2.alloc (.cells #[.int .i64 (v : Nat), .int .i64 (k : Nat), .bool false, .bool false] 63) = w3 at *
  obtain ⟨s0, s1, s2, s3, _, _, _, _⟩ := four_free HS3.out
  have HP1 := Lib.hid (pick_at B M 4 4 w3.drew HM3.out.drew (by omega) (by omega) rfl)
  go_region_law (first
    | (go_simp; go_at_call 15; (with_reducible refine HP1.out.mono ?_); rintro e w4 ⟨r4, rfl, hr4, hm4, ho4⟩; have HO4 := Lib.hid ((Only.refl (· = M) w3).drew.trans ho4); have HM4 := Lib.hid hm4; obtain ⟨z0, z1, z2, z3, _, _, _, _⟩ := four_free (HS3.out.only HO4.out (by omega)); have HW4 := Lib.hid (show IntKind.i64.wrap (1 + (r4 : Int)) = ((1 + r4 : Nat) : Int) by rw [IntWalk.i64_in _ (by omega)]; omega); have hs4 := HO4.out.size; clear hm4 ho4)
    | (go_simp; go_at_call 16; (with_reducible refine (mprog_at B M v k (1 + r4) 4 1 _ 4 1 w4 (by omega) (by omega) (by omega) (by omega) (by omega) (by omega) (by omega) (by omega) (by first | omega | exact HW4.out) rfl rfl HM4.out).mono ?_); rintro e w5 ⟨vp, p, rfl, ⟨vi, vt, o, tt, st, n, a, m, c, rfl, ⟨ai, ci, rfl, hi1, hi2⟩, ⟨aq, ct, rfl, ht1, ht2⟩, hlc⟩, hmp, hpt, hm5, ho5⟩; have HLP := Lib.hid (show LPg (From w4.heap.size) w5 _ p from ⟨_, _, o, tt, st, n, a, m, c, rfl, ⟨ai, ci, rfl, hi1, hi2⟩, ⟨aq, ct, rfl, ht1, ht2⟩, hlc⟩); have HMP := Lib.hid hmp; have HPT := Lib.hid hpt; have HM5 := Lib.hid hm5; have HO5 := Lib.hid (HO3.out.trans (HO4.out.trans ho5)); have HR5 := Lib.hid (HR3.out.only (HO4.out.trans ho5) (by omega)); obtain ⟨_, y0, y1, y2, y3, y4, y5, y6, y7, y8, y9⟩ := ten_free HR5.out; have hs5 := HO5.out.size; have hlR := HR5.out.lt; clear hi1 hi2 ht1 ht2 hlc hmp hpt hm5 ho5)
    | (trace_state; fail))
  all_goals
    go_wp2_with fail
    refine bodyPost_ret (results_cell_row (p := 2) rfl _ _ w.heap.size 30 #[.string (bs p.name), .int .i64 p.vals, .slice ai p.init.length ci, .slice aq p.threads.length ct, .int .i64 p.ask, .int .i64 o, .int .i64 tt, .string st, .int .i64 n, .slice a m c] (0, 0) _ rfl (put10 HR5.out) Try.underlying30 rfl (by kernel_rfl)) rfl ?_
    exact prog7_done (t := 1 + r4) hMB (by omega) (by omega) (by omega) (by omega) (by omega) (by omega) (Nat.le_refl _) (by omega) HO5.out HLP.out HMP.out HPT.out HM5.out
end Go.Proofs.Ytihhkppimeagfaa.Lx
