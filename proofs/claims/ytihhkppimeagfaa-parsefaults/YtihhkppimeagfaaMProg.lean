/-
  What prog of a maker tells, as a contract: a program that is made.
-/
import Derived.Test.YtihhkppimeagfaaMPgs
namespace Go.Proofs.Ytihhkppimeagfaa.Lx
open Go.RowKit
open P (EX CO ST PG MI MT MC MP MSs locB regB)
set_option maxRecDepth 100000
set_option linter.unusedVariables false
set_option linter.unusedSimpArgs false
theorem Try.infoCell' : (Try.prog.info? 67).map (fun i => (i.zero, i.size, i.bytes)) = some (some (.agg #[.string ⟨#[]⟩, .int .i64 0]), 2, 24) := by kernel_rfl
theorem Try.infoNs : (Try.prog.info? 43).map (fun i => (i.zero, i.size, i.bytes)) = some (some (.slice none 0 0), 1, 24) := by kernel_rfl
/-- A program that is made is told. -/
def MpTo (B M v k t m d : Nat) (w : World) (e : Ending) (w' : World) : Prop := ∃ vp p, e = .returned vp ∧ LPg (From w.heap.size) w' vp p ∧ MP v k m d p ∧ p.threads.length = t ∧ Mk B w' M ∧ Only (· = M) w w'
/-- The program's first place. -/
def FirstR (B M v k R : Nat) (w : World) (c : Value) (wx : World) : Prop := ∃ P a : Nat, c = .pointer (some ⟨P, 0, none⟩) ∧ (a = 1 ∨ a = 2) ∧ PgS B M v k P w.heap.size a [] [] [] (.slice none 0 0) (.slice none 0 0) (.slice none 0 0) w wx ∧ Blk wx R 30 (zp10 ⟨#[]⟩ 0 (.slice none 0 0) (.slice none 0 0) 0) ∧ R < P
theorem first_a {B M v k R r : Nat} {w w1 : World} (hMB : M < B ∧ B ≤ w.heap.size) (hr : r < 2) (hR : R < w1.heap.size) (hO : Only (· = M) w w1) (hm : Mk B w1 M) (hS : Blk w1 w.heap.size 63 #[.int .i64 (v : Nat), .int .i64 (k : Nat), .bool false, .bool false]) (hRB : Blk w1 R 30 (zp10 ⟨#[]⟩ 0 (.slice none 0 0) (.slice none 0 0) 0)) :
    FirstR B M v k R w (.pointer (some ⟨w1.heap.size, 0, none⟩)) (w1.alloc (.cells #[.string ⟨#[109, 97, 100, 101]⟩, .int .i64 (v : Nat), .slice none 0 0, .slice none 0 0, .int .i64 ((1 + r : Nat) : Int), .int .i64 0, .int .i64 0, .string ⟨#[]⟩, .int .i64 0, .slice none 0 0] 30)) := by
  have hb : Below w1.heap.size w1 (w1.alloc (.cells #[.string ⟨#[109, 97, 100, 101]⟩, .int .i64 (v : Nat), .slice none 0 0, .slice none 0 0, .int .i64 ((1 + r : Nat) : Int), .int .i64 0, .int .i64 0, .string ⟨#[]⟩, .int .i64 0, .slice none 0 0] 30)) := (Below.refl _ _).alloc (Nat.le_refl _) _
  exact ⟨w1.heap.size, 1 + r, rfl, by omega, ⟨Blk.new w1 _ _, hS.live' hb, ⟨[], World.ownsRow_nil _ _ _ _, rfl⟩, ⟨[], World.ownsRow_nil _ _ _ _, rfl⟩, ⟨[], World.ownsRow_nil _ _ _ _, rfl⟩, hm.below hb, hO.trans (Only.of_below hb)⟩, hRB.live' hb, hR⟩
theorem first_b {B M v k R r P : Nat} {w w1 : World} (hMB : M < B ∧ B ≤ w.heap.size) (hr : r < 2) (hP : w.heap.size < P) (hR : R < P) (hO : Only (· = M) w w1) (hm : Mk B w1 M) (hS : Blk w1 w.heap.size 63 #[.int .i64 (v : Nat), .int .i64 (k : Nat), .bool false, .bool false]) (hRB : Blk w1 R 30 (zp10 ⟨#[]⟩ 0 (.slice none 0 0) (.slice none 0 0) 0)) (hPB : Blk w1 P 30 (zp10 ⟨#[]⟩ 0 (.slice none 0 0) (.slice none 0 0) 0)) :
    FirstR B M v k R w (.pointer (some ⟨P, 0, none⟩)) (put10w w1 P (.string ⟨#[109, 97, 100, 101]⟩) (.int .i64 (v : Nat)) (.slice none 0 0) (.slice none 0 0) (.int .i64 ((1 + r : Nat) : Int)) (.int .i64 0) (.int .i64 0) (.string ⟨#[]⟩) (.int .i64 0) (.slice none 0 0)) := by
  have hp : Only (fun b => b = P) w1 (put10w w1 P (.string ⟨#[109, 97, 100, 101]⟩) (.int .i64 (v : Nat)) (.slice none 0 0) (.slice none 0 0) (.int .i64 ((1 + r : Nat) : Int)) (.int .i64 0) (.int .i64 0) (.string ⟨#[]⟩) (.int .i64 0) (.slice none 0 0)) := Only.put10 (Only.refl (fun b => b = P) w1) (.inl rfl) _ _ _ _ _ _ _ _ _ _
  exact ⟨P, 1 + r, rfl, by omega, ⟨put10 hPB, hS.only hp (by omega), ⟨[], World.ownsRow_nil _ _ _ _, rfl⟩, ⟨[], World.ownsRow_nil _ _ _ _, rfl⟩, ⟨[], World.ownsRow_nil _ _ _ _, rfl⟩, hm.only hp (fun g hg e => by omega), hO.then hp (fun b hb => .inr (by omega))⟩, hRB.only hp (by omega), hR⟩
theorem first_b' {B M v k R r P : Nat} {w w1 : World} (hMB : M < B ∧ B ≤ w.heap.size) (hr : r < 2) (hP : w.heap.size < P) (hR : R < P) (hO : Only (· = M) w w1) (hm : Mk B w1 M) (hS : Blk w1 w.heap.size 63 #[.int .i64 (v : Nat), .int .i64 (k : Nat), .bool false, .bool false]) (hRB : Blk w1 R 30 (zp10 ⟨#[]⟩ 0 (.slice none 0 0) (.slice none 0 0) 0)) (hPB : Blk w1 P 30 (zp10 ⟨#[]⟩ 0 (.slice none 0 0) (.slice none 0 0) 0)) :
    FirstR B M v k R w (.pointer (some ⟨P, 0, none⟩)) ((((((((((w1.setCell ⟨P, 0, none⟩ (.string ⟨#[109, 97, 100, 101]⟩)).setCell ⟨P, 1, none⟩ (.int .i64 (v : Nat))).setCell ⟨P, 2, none⟩ (.slice none 0 0)).setCell ⟨P, 3, none⟩ (.slice none 0 0)).setCell ⟨P, 4, none⟩ (.int .i64 ((1 + r : Nat) : Int))).setCell ⟨P, 5, none⟩ (.int .i64 0)).setCell ⟨P, 6, none⟩ (.int .i64 0)).setCell ⟨P, 7, none⟩ (.string ⟨#[]⟩)).setCell ⟨P, 8, none⟩ (.int .i64 0)).setCell ⟨P, 9, none⟩ (.slice none 0 0)) := first_b hMB hr hP hR hO hm hS hRB hPB
/-- Behind a round: a location more. -/
def NextI (B M v k P R : Nat) (ak : Int) (cs : List CE) (j : Nat) (w wx : World) : Prop := ∃ (a : Option Addr) (n c : Nat) (x : Nat), x < v ∧ PgS B M v k P w.heap.size ak (cs ++ [([locB j], (x : Int))]) [] [] (.slice a n c) (.slice none 0 0) (.slice none 0 0) w wx ∧ Blk wx R 30 (zp10 ⟨#[]⟩ 0 (.slice none 0 0) (.slice none 0 0) 0)
theorem mi_snoc {v j x : Nat} {cs : List CE} (h : MI v cs) (hj : cs.length = j) (hx : x < v) : MI v (cs ++ [([locB j], (x : Int))]) := by
  intro i c hc
  by_cases hi : i < cs.length
  · rw [List.getElem?_append_left hi] at hc
    exact h i c hc
  · rw [List.getElem?_append_right (by omega)] at hc
    have e : i - cs.length = 0 := by
      rcases hd : i - cs.length with _ | q
      · rfl
      · rw [hd] at hc
        simp at hc
    rw [e] at hc
    have hij : i = j := by omega
    subst hij
    exact ⟨x, hx, (Option.some.inj hc).symm⟩
theorem al_keep {w : World} {SH : Nat} {ty : TypeId} {a b c d : Value} (h : Blk w SH ty #[a, b, c, d]) (o : Obj) : (w.alloc o).cell? ⟨SH, 0, none⟩ = some a := (h.alloc o).cell 0
theorem prog_done {B M v k t m d P R : Nat} {ak : Nat} {cs : List CE} {ls : List (List ST)} {rg : List (List (List UInt8))} {a a2 ka : Option Addr} {n c n2 c2 kn kc : Nat} {vg : Value} {w wr w3 wq : World} {co cm cu : Int} {cst : ByteArray} {x : CO} {zz : Array Value} (hMB : M < B ∧ B ≤ w.heap.size) (hP : w.heap.size ≤ P) (hwR : w.heap.size < R) (hRP : R < P) (hak : ak = 1 ∨ ak = 2)
    (h2 : PgS B M v k P w.heap.size ak cs ls rg (.slice a n c) (.slice a2 n2 c2) vg w wr) (h3 : PgS B M v k P w.heap.size ak cs ls rg (.slice a n c) (.slice a2 n2 c2) vg w w3) (hR : Blk w3 R 30 zz) (hp5 : Only (fun b => b = P) w3 wq) (hlc : LC (From wr.heap.size) w3 (.agg #[.int .i64 co, .int .i64 cm, .string cst, .int .i64 cu, .slice ka kn kc]) x)
    (hmi : MI v cs) (hcl : cs.length = k) (hmt : MT v k m d ls rg) (hmc : MC v k rg 2 x) (hll : ls.length = t) :
    MpTo B M v k t m d w (.returned (.agg #[.string madeB, .int .i64 (v : Nat), .slice a n c, .slice a2 n2 c2, .int .i64 (ak : Nat), .int .i64 co, .int .i64 cm, .string cst, .int .i64 cu, .slice ka kn kc])) (put10w wq R (.string madeB) (.int .i64 (v : Nat)) (.slice a n c) (.slice a2 n2 c2) (.int .i64 (ak : Nat)) (.int .i64 co) (.int .i64 cm) (.string cst) (.int .i64 cu) (.slice ka kn kc)) := by
  have hPl := h2.blk.lt
  have hq : Only (fun b => b = P ∨ b = R) w3 (put10w wq R (.string madeB) (.int .i64 (v : Nat)) (.slice a n c) (.slice a2 n2 c2) (.int .i64 (ak : Nat)) (.int .i64 co) (.int .i64 cm) (.string cst) (.int .i64 cu) (.slice ka kn kc)) := (Only.then (S := fun b => b = P ∨ b = R) (Only.refl _ w3) hp5 (fun b hb => .inl (.inl hb))).then (Only.put10 (Only.refl (fun b => b = R) wq) (.inl rfl) _ _ _ _ _ _ _ _ _ _) (fun b hb => .inl (.inr hb))
  have k1 : Same (fun b => w.heap.size ≤ b ∧ b ≠ P ∧ b ≠ R) (From w.heap.size) w3 (put10w wq R (.string madeB) (.int .i64 (v : Nat)) (.slice a n c) (.slice a2 n2 c2) (.int .i64 (ak : Nat)) (.int .i64 co) (.int .i64 cm) (.string cst) (.int .i64 cu) (.slice ka kn kc)) := fun b hb hl => ⟨hb.1, hq.block b hl (fun e => e.elim hb.2.1 hb.2.2)⟩
  have k2 : Same (From wr.heap.size) (From w.heap.size) w3 (put10w wq R (.string madeB) (.int .i64 (v : Nat)) (.slice a n c) (.slice a2 n2 c2) (.int .i64 (ak : Nat)) (.int .i64 co) (.int .i64 cm) (.string cst) (.int .i64 cu) (.slice ka kn kc)) := fun b hb hl => by
    have hb' : wr.heap.size ≤ b := hb
    exact ⟨by show w.heap.size ≤ b; omega, hq.block b hl (by omega)⟩
  exact ⟨_, ⟨[109, 97, 100, 101], (v : Int), cs, ls, (ak : Int), x⟩, rfl, ⟨_, _, _, _, _, _, _, _, _, rfl, IsEs.step k1 (h3.isEs hR), IsTs.step k1 (h3.isTs hR hRP), hlc.step k2⟩, ⟨rfl, rfl, hmi, hcl, ⟨ak, rfl, hak⟩, rg, hmt, hmc⟩, hll, h3.mkr.only hq (fun g hg e => by omega), h3.only.then hq (fun b hb => .inr (by omega))⟩
theorem mcond_at (B M v k : Nat) (hv1 : 1 ≤ v) (hv : v ≤ 9) (hk1 : 1 ≤ k) (hk4 : k ≤ 4) (rg : List (List (List UInt8))) (vr : Value) (Q : Nat → Prop) (hq : ∀ g, Q g → g ≠ M) (hl1 : 1 ≤ rg.length) (hl : rg.length ≤ 10) (hll : ∀ r ∈ rg, r.length ≤ 900) (d : Nat) (z : Int) (w : World) (hd : d ≤ 10) (hz : z = (d : Int)) (hm : Mk B w M) (hr : Rgs Q w vr rg) :
    Calls Try.prog 30 #[.pointer (some ⟨M, 0, none⟩), .agg #[.int .i64 (v : Nat), .int .i64 (k : Nat), .bool false, .bool false], vr, .int .i64 z] w (McTo B M v k rg d w) := by
  subst hz
  exact mcond_any B M v k hv1 hv hk1 hk4 rg vr Q hq hl1 hl hll d w hd hm hr
set_option maxHeartbeats 6400000 in
theorem mprog_any (B M v k t m d : Nat) (hv1 : 1 ≤ v) (hv : v ≤ 9) (hk1 : 1 ≤ k) (hk4 : k ≤ 4) (ht1 : 1 ≤ t) (ht4 : t ≤ 10) (hm : m ≤ 90) (hd : d ≤ 5) (w : World) (h : Mk B w M) :
    Calls Try.prog 16 #[.pointer (some ⟨M, 0, none⟩), .agg #[.int .i64 (v : Nat), .int .i64 (k : Nat), .bool false, .bool false], .int .i64 (t : Nat), .int .i64 (m : Nat), .int .i64 (d : Nat)] w (MpTo B M v k t m d w) := by
  have hMB := h.le
  have HM := Lib.hid h
  obtain ⟨i0, hi, hz0, hz1, hz2⟩ := info_parts Try.infoCell'
  have HI := Lib.hid hi
  have HZ0 := Lib.hid hz0
  have HZ1 := Lib.hid hz1
  have HZ2 := Lib.hid hz2
  obtain ⟨i1, hj, hj0, hj1, hj2⟩ := info_parts Try.infoSl
  obtain ⟨i2, hl, hl0, hl1, hl2⟩ := info_parts Try.infoNs
  have HJ := Lib.hid hj
  have HJ0 := Lib.hid hj0
  have HJ1 := Lib.hid hj1
  have HJ2 := Lib.hid hj2
  have HL := Lib.hid hl
  have HL0 := Lib.hid hl0
  have HL1 := Lib.hid hl1
  have HL2 := Lib.hid hl2
  clear h hi hz0 hz1 hz2 hj hj0 hj1 hj2 hl hl0 hl1 hl2
  go_enter Try.func16, Try.ntmps16
  go_wp2_with fail
  have hS0 := (Blk.new w 63 #[.int .i64 (v : Nat), .int .i64 (k : Nat), .bool false, .bool false]).alloc (.cells (zp10 ⟨#[]⟩ 0 (.slice none 0 0) (.slice none 0 0) 0) 30)
  have hR0 := Blk.new (w.alloc (.cells #[.int .i64 (v : Nat), .int .i64 (k : Nat), .bool false, .bool false] 63)) 30 (zp10 ⟨#[]⟩ 0 (.slice none 0 0) (.slice none 0 0) 0)
  rw [show (w.alloc (.cells #[.int .i64 (v : Nat), .int .i64 (k : Nat), .bool false, .bool false] 63)).heap.size = w.heap.size + 1 by simp] at hR0
  have hb0 : Below w.heap.size w ((w.alloc (.cells #[.int .i64 (v : Nat), .int .i64 (k : Nat), .bool false, .bool false] 63)).alloc (.cells (zp10 ⟨#[]⟩ 0 (.slice none 0 0) (.slice none 0 0) 0) 30)) := ((Below.refl _ _).alloc (Nat.le_refl _) _).alloc (by simp) _
  have HR0 := Lib.hid hR0
  have HS0 := Lib.hid hS0
  have HM0 := Lib.hid (HM.out.below hb0)
  have HO0 := Lib.hid (Only.of_below (S := (· = M)) hb0)
  have hs0 : w.heap.size + 1 < ((w.alloc (.cells #[.int .i64 (v : Nat), .int .i64 (k : Nat), .bool false, .bool false] 63)).alloc (.cells (zp10 ⟨#[]⟩ 0 (.slice none 0 0) (.slice none 0 0) 0) 30)).heap.size := hR0.lt
  clear hb0 hR0 hS0 HM
  generalize (w.alloc (.cells #[.int .i64 (v : Nat), .int .i64 (k : Nat), .bool false, .bool false] 63)).alloc (.cells (zp10 ⟨#[]⟩ 0 (.slice none 0 0) (.slice none 0 0) 0) 30) = w0 at *
  generalize hRR : w.heap.size + 1 = R at *
  have HRR := Lib.hid hRR
  have hwR : w.heap.size < R := by omega
  clear hRR
  have hbZ : Below w0.heap.size w0 (w0.alloc (.cells (zp10 ⟨#[]⟩ 0 (.slice none 0 0) (.slice none 0 0) 0) 30)).drew := ((Below.refl _ _).alloc (Nat.le_refl _) _).drew
  have HBZ := Lib.hid hbZ
  have HZP := Lib.hid (show Blk (w0.alloc (.cells (zp10 ⟨#[]⟩ 0 (.slice none 0 0) (.slice none 0 0) 0) 30)).drew w0.heap.size 30 (zp10 ⟨#[]⟩ 0 (.slice none 0 0) (.slice none 0 0) 0) from Blk.new w0 30 (zp10 ⟨#[]⟩ 0 (.slice none 0 0) (.slice none 0 0) 0))
  clear hbZ
  have HP1 := Lib.hid (pick_at B M 2 2 w0.drew HM0.out.drew (by omega) (by omega) rfl)
  have HP2 := Lib.hid (pick_at B M 2 2 (w0.alloc (.cells (zp10 ⟨#[]⟩ 0 (.slice none 0 0) (.slice none 0 0) 0) 30)).drew (HM0.out.below HBZ.out) (by omega) (by omega) rfl)
  have hSl : w.heap.size < w0.heap.size := by omega
  obtain ⟨s0, s1, s2, s3, _, _, _, _⟩ := four_free HS0.out
  go_upto_region 1 with (fail)
  go_cut [11] (fun c wx => FirstR B M v k R w c wx)
  case first =>
    --[
    go_region_with (first
      | (go_at_call 15; (with_reducible refine HP1.out.mono ?_); rintro e w1 ⟨r, rfl, hr, hm1, ho1⟩; have HO1 := Lib.hid ((Only.refl (· = M) w0).drew.trans ho1); have HM1 := Lib.hid hm1; have HR1 := Lib.hid (HR0.out.only HO1.out (by omega)); have HS1 := Lib.hid (HS0.out.only HO1.out (by omega)); obtain ⟨z0, z1, z2, z3, _, _, _, _⟩ := four_free HS1.out; have hs1 := HO1.out.size; have hl1 := HS1.out.lt; have HWR := Lib.hid (show IntKind.i64.wrap (1 + (r : Int)) = ((1 + r : Nat) : Int) by rw [IntWalk.i64_in _ (by omega)]; omega); clear hm1 ho1)
      | (go_at_call 15; (with_reducible refine HP2.out.mono ?_); rintro e w1 ⟨r, rfl, hr, hm1, ho1⟩; have HO1 := Lib.hid ((Only.of_below (S := (· = M)) HBZ.out).trans ho1); have HM1 := Lib.hid hm1; have HR1 := Lib.hid (HR0.out.only HO1.out (by omega)); have HS1 := Lib.hid (HS0.out.only HO1.out (by omega)); have HP7 := Lib.hid (HZP.out.only ho1 (by omega)); obtain ⟨z0, z1, z2, z3, _, _, _, _⟩ := four_free HS1.out; obtain ⟨⟨g0, g1, g2, g3, g4, g5, g6, g7, g8, g9⟩, ⟨h0, h1, h2, h3, h4, h5, h6, h7, h8, h9⟩⟩ := ten_free HP7.out; have hs1 := HO1.out.size; have hl1 := HS1.out.lt; have hlP := HP7.out.lt; have HWR := Lib.hid (show IntKind.i64.wrap (1 + (r : Int)) = ((1 + r : Nat) : Int) by rw [IntWalk.i64_in _ (by omega)]; omega); clear hm1 ho1))
    all_goals
      go_wp2_with fail
      go_meet
      case rel =>
        rw [HWR.out]
        first
          | with_reducible exact first_a hMB hr (by omega) (HO0.out.trans HO1.out) HM1.out HS1.out HR1.out
          | with_reducible exact first_b' hMB hr (by omega) (by omega) (HO0.out.trans HO1.out) HM1.out HS1.out HR1.out HP7.out
          | (trace_state; sorry)
    --]
  case rest =>
    obtain ⟨P, ak, rfl, hak, hpg, hRB, hRP⟩ := hcut
    have HPG := Lib.hid hpg
    have HRB := Lib.hid hRB
    clear hpg hRB HP1 HP2 HZP HBZ HR0 HS0 HM0 HO0 s0 s1 s2 s3
    go_wp2_with fail
    go_loopw [12] (fun iv wr => ∃ (j : Nat) (a : Option Addr) (n c : Nat) (cs : List CE), iv = .int .i64 j ∧ j ≤ k ∧ PgS B M v k P w.heap.size ak cs [] [] (.slice a n c) (.slice none 0 0) (.slice none 0 0) w wr ∧ Blk wr R 30 (zp10 ⟨#[]⟩ 0 (.slice none 0 0) (.slice none 0 0) 0) ∧ MI v cs ∧ cs.length = j) (fun iv _ => k - (intOf iv).toNat)
    case atStart => exact ⟨0, _, _, _, [], rfl, Nat.zero_le _, HPG.out, HRB.out, (fun i c hc => by simp at hc), rfl⟩
    case round =>
      obtain ⟨j, a, n, c, cs, rfl, hj, hpg, hrb, hmi, hcl⟩ := hrel
      have HPG := Lib.hid hpg
      have HRB := Lib.hid hrb
      have HMI := Lib.hid hmi
      have HCL := Lib.hid hcl
      have hswr := hpg.only.size
      obtain ⟨s0, s1, s2, s3, _, _, _, _⟩ := four_free hpg.shp
      clear hpg hrb hmi hcl
      by_cases hlt : j < k
      · --[
        obtain ⟨vals, hown, hrows⟩ := HPG.out.ini
        have HROWS := Lib.hid hrows
        have hcl4 : cs.length ≤ 3 := by have := HCL.out; omega
        obtain ⟨⟨g0, g1, g2, g3, g4, g5, g6, g7, g8, g9⟩, ⟨h0, h1, h2, h3, h4, h5, h6, h7, h8, h9⟩⟩ := ten_free HPG.out.blk
        have hPl := HPG.out.blk.lt
        have hSl := HPG.out.shp.lt
        have HOWN := Lib.hid hown
        have hPo : (Value.slice a n c).ownBlock ≠ some P := own_ne (t' := 30) hown HPG.out.blk (by decide)
        have HPO := Lib.hid hPo
        clear hown hrows hPo
        have HP1 := Lib.hid (pick_at B M v v wr.drew HPG.out.mkr.drew (by omega) (by omega) rfl)
        go_upto_region 5 with (fail)
        go_region_law (first
          | (refine step_append_lies _ (by rfl) (.tmp 30) (.tmp 42) 24 (by rfl) w.heap.size 67 i0 (.agg #[.string ⟨#[]⟩, .int .i64 0]) 2 24 Try.underlying24 HI.out HZ0.out HZ1.out HZ2.out rfl (by decide) _ cs.length vals (by rfl) (HOWN4.out.alloc _) ⟨w4.heap.size, 0, none⟩ 1 1 [.string (bs [locB j]), .int .i64 ((r3 : Int).tmod (IntKind.i64.wrap (1 + (r4 : Int))))] (by rfl) rfl (cells_new _ #[.string (bs [locB j]), .int .i64 ((r3 : Int).tmod (IntKind.i64.wrap (1 + (r4 : Int))))] _) (two_one _ _) (by omega) (by unfold maxLen; omega) (by omega) (by simp; omega) (w4.heap.size + 1) (by simp) ?_; intro g3 c3' w5 hown3 hgrow3 hat3 hlt3; have hB5 := (hgrow3.block P (by simp; omega) (fun e => HPO.out e.symm)).trans (HPG4.out.blk.alloc (.cells #[.string (bs [locB j]), .int .i64 ((r3 : Int).tmod (IntKind.i64.wrap (1 + (r4 : Int))))] 67)); have d2 : w5.cell? ⟨P, 2, none⟩ = some _ := Blk.cell hB5 2; have e2 : w5.frozen? ⟨P, 2, none⟩ = false := Blk.free hB5 2)
          | (go_simp; go_at_call 28; (with_reducible refine (loc_any j (by omega) _).mono ?_); rintro e w9 ⟨rfl, rfl⟩)
          | (go_simp; go_at_call 15; (with_reducible refine HP1.out.mono ?_); rintro e w3 ⟨r3, rfl, hr3, hm3, ho3⟩; have HO3 := Lib.hid ((Only.refl (· = M) wr).drew.trans ho3); have HM3 := Lib.hid hm3; have HPG3 := Lib.hid (HPG.out.keep hMB (by omega) (by omega) HO3.out hm3); obtain ⟨⟨g0, g1, g2', g3, g4, g5, g6, g7, g8, g9⟩, ⟨h0, h1, h2, h3, h4, h5, h6, h7, h8, h9⟩⟩ := ten_free HPG3.out.blk; obtain ⟨z0, z1, z2, z3, _, _, _, _⟩ := four_free HPG3.out.shp; clear hm3 ho3)
          | (go_simp; go_at_call 15; (with_reducible refine (pick_at B M 2 2 w3 HM3.out (by omega) (by omega) rfl).mono ?_); rintro e w4 ⟨r4, rfl, hr4, hm4, ho4⟩; have HO4 := Lib.hid (HO3.out.trans ho4); have HM4 := Lib.hid hm4; have HPG4 := Lib.hid (HPG.out.keep hMB (by omega) (by omega) HO4.out hm4); obtain ⟨⟨g0, g1, g2'', g3, g4, g5, g6, g7, g8, g9⟩, ⟨h0, h1, h2, h3, h4, h5, h6, h7, h8, h9⟩⟩ := ten_free HPG4.out.blk; obtain ⟨y0, y1, y2, y3, _, _, _, _⟩ := four_free HPG4.out.shp; have hl4 := HPG4.out.blk.lt; have hs4 := HPG4.out.only.size; have HOWN4 := Lib.hid (own_only HOWN.out HO4.out (fun b hb e => by have := (HOWN.out.lt b hb).1; omega)); have hwn : ¬ IntKind.i64.wrap (1 + (r4 : Int)) = 0 := (by rw [IntWalk.i64_in _ (by omega)]; omega); have HTM := Lib.hid (show ((r3 : Int).tmod (IntKind.i64.wrap (1 + (r4 : Int)))) = ((r3 % (1 + r4) : Nat) : Int) by rw [IntWalk.i64_in _ (by omega), show (1 + (r4 : Int)) = ((1 + r4 : Nat) : Int) by omega]; rfl); clear hm4 ho4)
          | (trace_state; fail))
        all_goals
          go_wp2_with fail
          go_roundw
          case rel =>
            have hpg5 := PgS.init HPG4.out hMB (by omega) (Nat.le_refl _) HOWN4.out (rowsLE HROWS.out) (n := cs.length + 1) rfl hgrow3 (sl := [locB j]) (nu := ((r3 % (1 + r4) : Nat) : Int)) (by rw [← HTM.out]; exact hown3) hat3
            have hrb4 := HRB.out.only HO4.out (by omega)
            have hrb5 := (hrb4.only ((((Only.refl (fun b => (Value.slice a n c).ownBlock = some b) w4).alloc _).grown' hgrow3 (fun k hk => .inl hk))) (own_ne (t' := 30) HOWN4.out hrb4 (by decide))).only (only_set w5 P 2 (.slice (some ⟨g3, 0, none⟩) (cs.length + 1) c3')) (by omega)
            exact ⟨j + 1, _, _, _, _, by go_num, by omega, hpg5, hrb5, mi_snoc HMI.out HCL.out (Nat.lt_of_le_of_lt (Nat.mod_le _ _) hr3), by simp [HCL.out]⟩
          case measure => simp [intOf]; omega
        --]
      · obtain rfl : k = j := by omega
        clear hlt hj
        go_wp2_with fail
        clear s0 s1 s2 s3
        go_loopw [13, 14] (fun gv iv wr => ∃ (s : Nat) (a2 : Option Addr) (n2 c2 : Nat) (a3 : Option Addr) (n3 c3 : Nat) (ls : List (List ST)) (rg : List (List (List UInt8))), gv = .slice a3 n3 c3 ∧ iv = .int .i64 s ∧ s ≤ t ∧ PgS B M v k P w.heap.size ak cs ls rg (.slice a n c) (.slice a2 n2 c2) (.slice a3 n3 c3) w wr ∧ Blk wr R 30 (zp10 ⟨#[]⟩ 0 (.slice none 0 0) (.slice none 0 0) 0) ∧ MT v k m d ls rg ∧ ls.length = s ∧ rg.length = s ∧ ∀ r ∈ rg, r.length ≤ 100) (fun _ iv _ => t - (intOf iv).toNat)
        case atStart => exact ⟨0, _, _, _, _, _, _, [], [], rfl, rfl, Nat.zero_le _, HPG.out, HRB.out, .nil, rfl, rfl, fun r hr => by cases hr⟩
        case round =>
          obtain ⟨s, a2, n2, c2, a3, n3, c3, ls, rg, rfl, rfl, hs, hpg, hrb, hmt, hll, hrl, hrr⟩ := hrel
          have HP2 := Lib.hid hpg
          have HB2 := Lib.hid hrb
          have HMT := Lib.hid hmt
          have HLL := Lib.hid hll
          have HRL := Lib.hid hrl
          have HRR2 := Lib.hid hrr
          have hswr := hpg.only.size
          clear hpg hrb hmt hll hrl hrr
          by_cases hlt : s < t
          · --[
            have hls4 : ls.length ≤ 10 := by have := HLL.out; omega
            have hrg4 : rg.length ≤ 10 := by have := HRL.out; omega
            obtain ⟨s0, s1, s2, s3, _, _, _, _⟩ := four_free HP2.out.shp
            have hPl := HP2.out.blk.lt
            have hSl := HP2.out.shp.lt
            have HPK := Lib.hid (fun (z : Int) (hz : z = ((m + 1 : Nat) : Int)) => pick_at B M (m + 1) z wr.drew HP2.out.mkr.drew (by omega) (by omega) hz)
            have HZM := Lib.hid (show IntKind.i64.wrap ((m : Int) + 1) = ((m + 1 : Nat) : Int) by rw [IntWalk.i64_in _ (by omega)]; omega)
            go_upto_region 10 with (fail)
            go_region_law (first
              | (go_simp; go_at_call 15; (with_reducible refine (HPK.out _ (by first | omega | exact HZM.out)).mono ?_); rintro e w3 ⟨r3, rfl, hr3, hm3, ho3⟩; have HO3 := Lib.hid ((Only.refl (· = M) wr).drew.trans ho3); have HM3 := Lib.hid hm3; have HP3 := Lib.hid (HP2.out.keep hMB (by omega) (by omega) HO3.out hm3); obtain ⟨z0, z1, z2, z3, _, _, _, _⟩ := four_free HP3.out.shp; clear hm3 ho3)
              | (go_simp; go_at_call 29; (with_reducible refine (stmts_any B M v k hv1 hv hk1 hk4 m (by omega) d (fun _ => False) [] (.slice none 0 0) w3 (by omega) HM3.out (nms_nil _ _) (fun g h => h.elim) (by simp <;> omega) (fun _ => rfl) r3 (by omega)).mono ?_); rintro e w4 ⟨xa, xn, xc, ya, yn, yc, l, r, rfl, hss, hnn, hms, hln, hrlen, _, hm4, ho4⟩; have HO4 := Lib.hid (HO3.out.trans ho4); have HSS := Lib.hid hss; have HNN := Lib.hid hnn; have HMS := Lib.hid hms; have HP4 := Lib.hid (HP3.out.keep hMB (by omega) (by omega) ho4 hm4); have hs34 := ho4.size; clear hss hnn hms hm4 ho4)
              | (trace_state; fail))
            all_goals
              have hs3' := HO3.out.size
              have hs4' := HO4.out.size
              obtain ⟨valsT, hownT, hrowsT⟩ := HP4.out.thr
              have HOWT := Lib.hid hownT
              have HRWT := Lib.hid hrowsT
              have HTP := Lib.hid (show (Value.slice a2 n2 c2).ownBlock ≠ some P from own_ne (t' := 30) hownT HP4.out.blk (by decide))
              clear hownT hrowsT
              obtain ⟨⟨x0, x1, x2, x3, x4, x5, x6, x7, x8, x9⟩, ⟨y0, y1, y2, y3, y4, y5, y6, y7, y8, y9⟩⟩ := ten_free HP4.out.blk
              have hPl4 := HP4.out.blk.lt
              go_upto_region 12 with (at_builtin; refine wpList_append_lies _ rfl (.tmp 62) (.tmp 64) 25 rfl w.heap.size 49 i1 (.slice none 0 0) 1 24 Try.underlying25 HJ.out HJ0.out HJ1.out HJ2.out rfl (by decide) (.slice a2 n2 c2) ls.length valsT rfl (HOWT.out.alloc _) ⟨w4.heap.size, 0, none⟩ 1 1 [.slice xa xn xc] rfl rfl (cells_new _ #[.slice xa xn xc] _) (sl_one _ _ _) (by decide) (by unfold maxLen; omega) (by omega) (by simp; omega) (w4.heap.size + 1) (by simp) ?_; intro g5 c5 w5 hown5 hgr5 hat5 hlt5; have hB5 := (hgr5.block P (by simp; omega) (fun e => HTP.out e.symm)).trans (HP4.out.blk.alloc (.cells #[.slice xa xn xc] 49)); have d2 : w5.cell? ⟨P, 3, none⟩ = some _ := Blk.cell hB5 3; have e2 : w5.frozen? ⟨P, 3, none⟩ = false := Blk.free hB5 3)
              have hpt := PgS.addT HP4.out hMB (by omega) (Nat.le_refl _) HOWT.out HRWT.out HSS.out (by show w.heap.size ≤ w3.heap.size; omega) (by have := HP3.out.blk.lt; show P < w3.heap.size; omega) HP3.out.owns.1 HP3.out.owns.2.1 HP3.out.owns.2.2 (n := ls.length + 1) rfl hgr5 hown5 hat5
              have hrb4 := HB2.out.only HO4.out (by omega)
              have HPZ := Lib.hid hpt.1
              have HRZ := Lib.hid ((hrb4.only ((((Only.refl (fun b => (Value.slice a2 n2 c2).ownBlock = some b) w4).alloc _).grown' hgr5 (fun k hk => .inl hk))) (own_ne (t' := 30) HOWT.out hrb4 (by decide))).only (only_set w5 P 3 (.slice (some ⟨g5, 0, none⟩) (ls.length + 1) c5)) (by omega))
              have HNZ := Lib.hid (nmsStep hpt.2 (HNN.out.mono (Q' := From w3.heap.size) (fun b hb _ => hb.elim (fun h => h.elim) id)))
              clear hpt hrb4 hgr5 hown5 hat5 hB5 d2 e2 x0 x1 x2 x3 x4 x5 x6 x7 x8 x9 y0 y1 y2 y3 y4 y5 y6 y7 y8 y9 HSS HNN
              generalize w5.setCell ⟨P, 3, none⟩ (.slice (some ⟨g5, 0, none⟩) (ls.length + 1) c5) = wz at *
              obtain ⟨valsR, hownR, hrowsR⟩ := HPZ.out.reg
              have HOWR := Lib.hid hownR
              have HRWR := Lib.hid hrowsR
              have hsz := HPZ.out.only.size
              clear hownR hrowsR
              go_wp2_with (at_builtin; refine wpList_append_lies _ rfl (.tmp 67) (.tmp 69) 78 rfl w.heap.size 43 i2 (.slice none 0 0) 1 24 Try.underlying78 HL.out HL0.out HL1.out HL2.out rfl (by decide) (.slice a3 n3 c3) rg.length valsR rfl (HOWR.out.alloc _) ⟨wz.heap.size, 0, none⟩ 1 1 [.slice ya yn yc] rfl rfl (cells_new _ #[.slice ya yn yc] _) (sl_one _ _ _) (by decide) (by unfold maxLen; omega) (by omega) (by simp; omega) (wz.heap.size + 1) (by simp) ?_; intro g6 c6 w6 hown6 hgr6 hat6 hlt6)
              go_roundw
              case rel =>
                have hpn := PgS.addR HPZ.out hMB HOWR.out HRWR.out HNZ.out (n := rg.length + 1) rfl hgr6 hown6 hat6
                have hrn := HRZ.out.only (((Only.refl (fun b => (Value.slice a3 n3 c3).ownBlock = some b) wz).alloc _).grown' hgr6 (fun k hk => .inl hk)) (own_ne (t' := 30) HOWR.out HRZ.out (by decide))
                refine ⟨s + 1, _, _, _, _, _, _, _, _, rfl, by go_num, by omega, hpn, hrn, .snoc HMT.out HMS.out (by omega), by simp [HLL.out], by simp [HRL.out], fun rr hrr => ?_⟩
                rcases List.mem_append.1 hrr with hx | hx
                · exact HRR2.out rr hx
                · rw [List.mem_singleton.1 hx]
                  simp at hrlen
                  omega
              case measure => simp [intOf]; omega
            --]
          · obtain rfl : t = s := by omega
            clear hlt hs
            have HRG := Lib.hid HP2.out.rgs
            obtain ⟨s0, s1, s2, s3, _, _, _, _⟩ := four_free HP2.out.shp
            go_wp2_with fail
            with_reducible refine (mcond_at B M v k hv1 hv hk1 hk4 rg (.slice a3 n3 c3) (fun b => w.heap.size ≤ b ∧ b < wr.heap.size) (fun g h e => by omega) (by have := HRL.out; omega) (by have := HRL.out; omega) (fun r hr => Nat.le_trans (HRR2.out r hr) (by omega)) 2 2 wr (by omega) rfl HP2.out.mkr HRG.out).mono ?_
            rintro e w3 ⟨co, cm, cst, cu, ka, kn, kc, x, rfl, hlc, hmc, hm3, ho3⟩
            have HLC := Lib.hid hlc
            have HMC := Lib.hid hmc
            have HP3 := Lib.hid (HP2.out.keep hMB (by omega) (by omega) ho3 hm3)
            have HR3 := Lib.hid (HB2.out.only ho3 (by omega))
            have hs3 := ho3.size
            clear hlc hmc hm3 s0 s1 s2 s3
            obtain ⟨⟨x0, x1, x2, x3, x4, x5, x6, x7, x8, x9⟩, ⟨y0, y1, y2, y3, y4, y5, y6, y7, y8, y9⟩⟩ := ten_free HP3.out.blk
            obtain ⟨⟨_, _, _, _, _, _, _, _, _, _⟩, ⟨z0, z1, z2, z3, z4, z5, z6, z7, z8, z9⟩⟩ := ten_free HR3.out
            have hlP := HP3.out.blk.lt
            have hlR := HR3.out.lt
            go_wp2_with fail
            clear x0 x1 x2 x3 x4 x5 x6 x7 x8 x9 y0 y1 y2 y3 y4 y5 y6 y7 y8 y9 z0 z1 z2 z3 z4 z5 z6 z7 z8 z9
            have hp5 : Only (fun b => b = P) w3 (((((w3.setCell ⟨P, 5, none⟩ (.int .i64 co)).setCell ⟨P, 6, none⟩ (.int .i64 cm)).setCell ⟨P, 7, none⟩ (.string cst)).setCell ⟨P, 8, none⟩ (.int .i64 cu)).setCell ⟨P, 9, none⟩ (.slice ka kn kc)) := (((((Only.refl (fun b => b = P) w3).setCell (p := ⟨P, 5, none⟩) (.inl rfl) _).setCell (p := ⟨P, 6, none⟩) (.inl rfl) _).setCell (p := ⟨P, 7, none⟩) (.inl rfl) _).setCell (p := ⟨P, 8, none⟩) (.inl rfl) _).setCell (p := ⟨P, 9, none⟩) (.inl rfl) _
            have hrq := HR3.out.only hp5 (by omega)
            have HP5 := Lib.hid hp5
            have hlq := hp5.size
            clear hp5
            generalize ((((w3.setCell ⟨P, 5, none⟩ (.int .i64 co)).setCell ⟨P, 6, none⟩ (.int .i64 cm)).setCell ⟨P, 7, none⟩ (.string cst)).setCell ⟨P, 8, none⟩ (.int .i64 cu)).setCell ⟨P, 9, none⟩ (.slice ka kn kc) = wq at *
            refine bodyPost_ret (results_cell_row (p := 10) rfl _ _ R 30 #[.string madeB, .int .i64 (v : Nat), .slice a n c, .slice a2 n2 c2, .int .i64 (ak : Nat), .int .i64 co, .int .i64 cm, .string cst, .int .i64 cu, .slice ka kn kc] (0, 0) _ rfl (put10 hrq) Try.underlying30 rfl (by kernel_rfl)) rfl ?_
            exact prog_done hMB (by omega) hwR hRP hak HP2.out HP3.out HR3.out HP5.out HLC.out HMI.out HCL.out HMT.out HMC.out HLL.out
end Go.Proofs.Ytihhkppimeagfaa.Lx
