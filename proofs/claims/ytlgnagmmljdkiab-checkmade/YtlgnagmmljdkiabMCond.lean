/-
  What cond of a maker tells, as a contract: a condition that is made.
-/
import Derived.Test.YtlgnagmmljdkiabMLst
import Derived.Deep.RegionWith
import Derived.Deep.RegionHeld3
import Derived.Deep.DeepCutAuto
namespace Go.Proofs.Ytlgnagmmljdkiab.Lx
open Go.RowKit
open P (EX CO ST PG MC locB regB)
set_option maxRecDepth 100000
set_option linter.unusedVariables false
set_option linter.unusedSimpArgs false
/-- Rows of names side by side. -/
def Rgs (Q : Nat → Prop) (w : World) (v : Value) (rg : List (List (List UInt8))) : Prop := ∃ a cap, v = .slice a rg.length cap ∧ (rg = [] ∨ ∃ g off, a = some ⟨g, off, none⟩ ∧ Q g ∧ ∀ i, i < rg.length → ∃ u, w.cell? ⟨g, off + i, none⟩ = some u ∧ Nms Q w u (rg.getD i []))
theorem Rgs.keep {Q : Nat → Prop} {w w' : World} {v : Value} {rg : List (List (List UInt8))} (h : Rgs Q w v rg) (hk : Keeps Q w w') : Rgs Q w' v rg := by
  obtain ⟨a, cap, rfl, h⟩ := h
  refine ⟨a, cap, rfl, ?_⟩
  rcases h with h | ⟨g, off, ha, hg, hc⟩
  · exact .inl h
  · refine .inr ⟨g, off, ha, hg, fun i hi => ?_⟩
    obtain ⟨u, h1, h2⟩ := hc i hi
    exact ⟨u, hk.cell hg h1, h2.keep hk⟩
theorem Rgs.mono {Q Q' : Nat → Prop} {w : World} {v : Value} {rg : List (List (List UInt8))} (h : Rgs Q w v rg) (hq : ∀ g, Q g → g < w.heap.size → Q' g) : Rgs Q' w v rg := by
  obtain ⟨a, cap, rfl, h⟩ := h
  refine ⟨a, cap, rfl, ?_⟩
  by_cases h0 : rg = []
  · exact .inl h0
  rcases h with h | ⟨g, off, ha, hg, hc⟩
  · exact absurd h h0
  · have hl : 0 < rg.length := List.length_pos_iff.2 h0
    obtain ⟨u0, h1, _⟩ := hc 0 hl
    refine .inr ⟨g, off, ha, hq g hg (World.block_lt_of_cell? w _ h1), fun i hi => ?_⟩
    obtain ⟨u, h1, h2⟩ := hc i hi
    exact ⟨u, h1, h2.mono hq⟩
/-- A name of a row. -/
def nmAt (rs : List (List UInt8)) (i : Nat) : ByteArray := bs (rs.getD i [])
/-- Two blocks beside the condition's are as they were. -/
theorem cd_keep {w7 : World} {SH R g o gu ou n : Nat} {ty : TypeId} {a b c d u : Value} {f : Nat → Value} (hg : w7.cell? ⟨g, o, none⟩ = some u) (hgu : ∀ i, i < n → w7.cell? ⟨gu, ou + i, none⟩ = some (f i)) (hguR : gu ≠ R) (h : Blk w7 SH ty #[a, b, c, d]) (hgR : g ≠ R) (hSR : SH ≠ R) (u0 u1 u2 u3 u4 : Value) :
    ((((((w7.setCell ⟨R, 0, none⟩ u0).setCell ⟨R, 1, none⟩ u1).setCell ⟨R, 2, none⟩ u2).setCell ⟨R, 3, none⟩ u3).setCell ⟨R, 4, none⟩ u4).cell? ⟨g, o, none⟩ = some u) ∧ ((((((w7.setCell ⟨R, 0, none⟩ u0).setCell ⟨R, 1, none⟩ u1).setCell ⟨R, 2, none⟩ u2).setCell ⟨R, 3, none⟩ u3).setCell ⟨R, 4, none⟩ u4).cell? ⟨SH, 0, none⟩ = some a) ∧ (∀ i, i < n → (((((w7.setCell ⟨R, 0, none⟩ u0).setCell ⟨R, 1, none⟩ u1).setCell ⟨R, 2, none⟩ u2).setCell ⟨R, 3, none⟩ u3).setCell ⟨R, 4, none⟩ u4).cell? ⟨gu, ou + i, none⟩ = some (f i)) := by
  have hp : Only (fun b => b = R) w7 (((((w7.setCell ⟨R, 0, none⟩ u0).setCell ⟨R, 1, none⟩ u1).setCell ⟨R, 2, none⟩ u2).setCell ⟨R, 3, none⟩ u3).setCell ⟨R, 4, none⟩ u4) := Only.put5 (Only.refl (fun b => b = R) w7) (.inl rfl) _ _ _ _ _
  exact ⟨hp.cell hg hgR, (h.only hp hSR).cell 0, fun i hi => hp.cell (hgu i hi) hguR⟩
theorem cd_keep2 {w7 : World} {SH R : Nat} {ty : TypeId} {a b c d : Value} (h : Blk w7 SH ty #[a, b, c, d]) (hSR : SH ≠ R) (u0 u1 u2 u3 u4 : Value) :
    ((((((w7.setCell ⟨R, 0, none⟩ u0).setCell ⟨R, 1, none⟩ u1).setCell ⟨R, 2, none⟩ u2).setCell ⟨R, 3, none⟩ u3).setCell ⟨R, 4, none⟩ u4).cell? ⟨SH, 0, none⟩ = some a) ∧ ((((((w7.setCell ⟨R, 0, none⟩ u0).setCell ⟨R, 1, none⟩ u1).setCell ⟨R, 2, none⟩ u2).setCell ⟨R, 3, none⟩ u3).setCell ⟨R, 4, none⟩ u4).cell? ⟨SH, 1, none⟩ = some b) := by
  have hp : Only (fun b => b = R) w7 (((((w7.setCell ⟨R, 0, none⟩ u0).setCell ⟨R, 1, none⟩ u1).setCell ⟨R, 2, none⟩ u2).setCell ⟨R, 3, none⟩ u3).setCell ⟨R, 4, none⟩ u4) := Only.put5 (Only.refl (fun b => b = R) w7) (.inl rfl) _ _ _ _ _
  have h2 := h.only hp hSR
  exact ⟨h2.cell 0, h2.cell 1⟩
/-- A condition that is made is told; only the maker goes on. -/
def McTo (B M v k : Nat) (rg : List (List (List UInt8))) (d : Nat) (w : World) (e : Ending) (w' : World) : Prop :=
  ∃ (o m : Int) (s : ByteArray) (u : Int) (a : Option Addr) (n c : Nat) (x : CO), e = .returned (.agg #[.int .i64 o, .int .i64 m, .string s, .int .i64 u, .slice a n c]) ∧ LC (From w.heap.size) w' (.agg #[.int .i64 o, .int .i64 m, .string s, .int .i64 u, .slice a n c]) x ∧ MC v k rg d x ∧ Mk B w' M ∧ Only (· = M) w w'
theorem mc_leaf {B M v k d R : Nat} {rg : List (List (List UInt8))} {w w7 : World} {op t n : Int} {s : List UInt8} (hR : w.heap.size ≤ R) (hB : B ≤ w.heap.size) (hMB : M < B) (hO : Only (· = M) w w7) (hm : Mk B w7 M) (hx : MC v k rg d (.mk op t s n [])) :
    McTo B M v k rg d w (.returned (.agg #[.int .i64 op, .int .i64 t, .string (bs s), .int .i64 n, .slice none 0 0])) (((((w7.setCell ⟨R, 0, none⟩ (.int .i64 op)).setCell ⟨R, 1, none⟩ (.int .i64 t)).setCell ⟨R, 2, none⟩ (.string (bs s))).setCell ⟨R, 3, none⟩ (.int .i64 n)).setCell ⟨R, 4, none⟩ (.slice none 0 0)) := by
  have hp5 : Only (fun b => b = R) w7 (((((w7.setCell ⟨R, 0, none⟩ (.int .i64 op)).setCell ⟨R, 1, none⟩ (.int .i64 t)).setCell ⟨R, 2, none⟩ (.string (bs s))).setCell ⟨R, 3, none⟩ (.int .i64 n)).setCell ⟨R, 4, none⟩ (.slice none 0 0)) := Only.put5 (Only.refl (fun b => b = R) w7) (.inl rfl) _ _ _ _ _
  exact ⟨op, t, bs s, n, none, 0, 0, _, rfl, lc_leaf _ _ op t s n none 0, hx, hm.only hp5 (by intro g hg e; omega), Only.put5 hO (.inr hR) _ _ _ _ _⟩
theorem mc_kids {B M v k d R n : Nat} {rg : List (List (List UInt8))} {w w7 : World} {op : Int} {cs : Array Value} {ks : List CO} (hn : n = ks.length) (hR : w.heap.size ≤ R) (hB : B ≤ w.heap.size) (hMB : M < B) (hRl : R < w7.heap.size) (hO : Only (· = M) w w7) (hm : Mk B w7 M)
    (hk : ∀ w8, (∀ b, R < b → b < w7.heap.size → w8.heap[b]? = w7.heap[b]?) → Blk w8 w7.heap.size 28 cs → LC (From w.heap.size) w8 (.agg #[.int .i64 op, .int .i64 0, .string (bs []), .int .i64 0, .slice (some ⟨w7.heap.size, 0, none⟩) ks.length ks.length]) (.mk op 0 [] 0 ks)) (hx : MC v k rg d (.mk op 0 [] 0 ks)) :
    McTo B M v k rg d w (.returned (.agg #[.int .i64 op, .int .i64 0, .string ⟨#[]⟩, .int .i64 0, .slice (some ⟨w7.heap.size, 0, none⟩) n n])) ((((((w7.setCell ⟨R, 0, none⟩ (.int .i64 op)).setCell ⟨R, 1, none⟩ (.int .i64 0)).setCell ⟨R, 2, none⟩ (.string ⟨#[]⟩)).setCell ⟨R, 3, none⟩ (.int .i64 0)).setCell ⟨R, 4, none⟩ (.slice (some ⟨w7.heap.size, 0, none⟩) n n)).alloc (.cells cs 28)) := by
  subst hn
  have hp5 : Only (fun b => b = R) w7 (((((w7.setCell ⟨R, 0, none⟩ (.int .i64 op)).setCell ⟨R, 1, none⟩ (.int .i64 0)).setCell ⟨R, 2, none⟩ (.string ⟨#[]⟩)).setCell ⟨R, 3, none⟩ (.int .i64 0)).setCell ⟨R, 4, none⟩ (.slice (some ⟨w7.heap.size, 0, none⟩) ks.length ks.length)) := Only.put5 (Only.refl (fun b => b = R) w7) (.inl rfl) _ _ _ _ _
  have hO8 := Only.put5 hO (R := R) (.inr hR) (.int .i64 op) (.int .i64 0) (.string ⟨#[]⟩) (.int .i64 0) (.slice (some ⟨w7.heap.size, 0, none⟩) ks.length ks.length)
  have hsz : (((((w7.setCell ⟨R, 0, none⟩ (.int .i64 op)).setCell ⟨R, 1, none⟩ (.int .i64 0)).setCell ⟨R, 2, none⟩ (.string ⟨#[]⟩)).setCell ⟨R, 3, none⟩ (.int .i64 0)).setCell ⟨R, 4, none⟩ (.slice (some ⟨w7.heap.size, 0, none⟩) ks.length ks.length)).heap.size = w7.heap.size := by simp [World.setCell]
  generalize ((((w7.setCell ⟨R, 0, none⟩ (.int .i64 op)).setCell ⟨R, 1, none⟩ (.int .i64 0)).setCell ⟨R, 2, none⟩ (.string ⟨#[]⟩)).setCell ⟨R, 3, none⟩ (.int .i64 0)).setCell ⟨R, 4, none⟩ (.slice (some ⟨w7.heap.size, 0, none⟩) ks.length ks.length) = w8 at *
  have hK := Blk.new w8 28 cs
  have hb9 : Below w8.heap.size w8 (w8.alloc (.cells cs 28)) := (Below.refl _ _).alloc (Nat.le_refl _) _
  rw [hsz] at hK
  exact ⟨op, 0, ⟨#[]⟩, 0, _, _, _, _, rfl, hk _ (fun b hb hl => (hb9.block b (by omega)).trans (hp5.block b hl (by omega))) hK, hx, (hm.only hp5 (by intro g hg e; omega)).below hb9, hO8.trans (Only.of_below hb9)⟩
set_option maxHeartbeats 6400000 in
theorem mcond_step (B M v k : Nat) (hv1 : 1 ≤ v) (hv : v ≤ 9) (hk1 : 1 ≤ k) (hk4 : k ≤ 4) (d : Nat) (rg : List (List (List UInt8))) (vr : Value) (Q : Nat → Prop) (w : World) (hd : d ≤ 10) (h : Mk B w M) (hn : Rgs Q w vr rg) (hq : ∀ g, Q g → g ≠ M) (hl1 : 1 ≤ rg.length) (hl : rg.length ≤ 10) (hll : ∀ r ∈ rg, r.length ≤ 900)
    (ih : ∀ d', d = d' + 1 → ∀ (w : World), Mk B w M → Rgs Q w vr rg → Calls Try.prog 38 #[.pointer (some ⟨M, 0, none⟩), .agg #[.int .i64 (v : Nat), .int .i64 (k : Nat), .bool false, .bool false], vr, .int .i64 (d' : Nat)] w (McTo B M v k rg d' w)) :
    Calls Try.prog 38 #[.pointer (some ⟨M, 0, none⟩), .agg #[.int .i64 (v : Nat), .int .i64 (k : Nat), .bool false, .bool false], vr, .int .i64 (d : Nat)] w (McTo B M v k rg d w) := by
  have IH0 := Lib.hid ih
  have HLL := Lib.hid hll
  clear ih hll
  have HN := Lib.hid (hn.mono (Q' := fun g => Q g ∧ g < w.heap.size) (fun g hg hgl => ⟨hg, hgl⟩))
  have HQ := Lib.hid (show ∀ g, (Q g ∧ g < w.heap.size) → g ≠ M from fun g hg => hq g hg.1)
  have hMB := h.le
  obtain ⟨av, cv, rfl, hc⟩ := hn
  have HM := Lib.hid h
  clear h hc hq
  go_enter Try.func38, Try.ntmps38
  go_wp2_with fail
  have hS0 := (Blk.new w 69 #[.int .i64 (v : Nat), .int .i64 (k : Nat), .bool false, .bool false]).alloc (.cells zc 28)
  have hR0 := Blk.new (w.alloc (.cells #[.int .i64 (v : Nat), .int .i64 (k : Nat), .bool false, .bool false] 69)) 28 zc
  rw [show (w.alloc (.cells #[.int .i64 (v : Nat), .int .i64 (k : Nat), .bool false, .bool false] 69)).heap.size = w.heap.size + 1 by simp] at hR0
  have hb0 : Below w.heap.size w ((w.alloc (.cells #[.int .i64 (v : Nat), .int .i64 (k : Nat), .bool false, .bool false] 69)).alloc (.cells zc 28)) := ((Below.refl _ _).alloc (Nat.le_refl _) _).alloc (by simp) _
  have HR0 := Lib.hid hR0
  have HS0 := Lib.hid hS0
  have HM0 := Lib.hid (HM.out.below hb0)
  have HO0 := Lib.hid (Only.of_below (S := (· = M)) hb0)
  have HN0 := Lib.hid (HN.out.keep (Keeps.below hb0 (Nat.le_refl _)))
  have hs0 : w.heap.size + 1 < ((w.alloc (.cells #[.int .i64 (v : Nat), .int .i64 (k : Nat), .bool false, .bool false] 69)).alloc (.cells zc 28)).heap.size := hR0.lt
  clear hb0 hR0 hS0 HN HM
  generalize (w.alloc (.cells #[.int .i64 (v : Nat), .int .i64 (k : Nat), .bool false, .bool false] 69)).alloc (.cells zc 28) = w0 at *
  generalize hRR : w.heap.size + 1 = R at *
  have HRR := Lib.hid hRR
  have hwR : w.heap.size < R := by omega
  clear hRR
  with_reducible refine (pick_at B M 6 6 w0 HM0.out (by omega) (by omega) rfl).mono ?_
  rintro e w1 ⟨r, rfl, hr, hm1, ho1⟩
  have HR1 := Lib.hid (HR0.out.only ho1 (by omega))
  have HS1 := Lib.hid (HS0.out.only ho1 (by omega))
  have HM1 := Lib.hid hm1
  have HO1 := Lib.hid (HO0.out.trans ho1)
  have HN1 := Lib.hid (HN0.out.keep (Keeps.only ho1 (fun g hg => HQ.out g hg)))
  have hs1 := ho1.size
  clear hm1 ho1 HR0 HS0 HM0 HO0 HN0
  by_cases hbin : 0 < d ∧ 3 < r
  · obtain ⟨hd0, h5⟩ := hbin
    obtain ⟨d', hdd⟩ : ∃ d', d = d' + 1 := ⟨d - 1, by omega⟩
    have IH := Lib.hid (fun (w' : World) (h1 : Mk B w' M) (h2 : Rgs (fun g => Q g ∧ g < w.heap.size) w' (.slice av rg.length cv) rg) => IH0.out d' hdd w' h1 (h2.mono (fun g hg _ => hg.1)))
    have e1 : decide ((0 : Int) < (d : Int)) = true := by simp <;> omega
    have e1' : decide (0 < d) = true := by simp <;> omega
    have e2 : decide ((3 : Int) < (r : Int)) = true := by simp <;> omega
    have e2' : decide (3 < r) = true := by simp <;> omega
    have ed : (d : Int) - 1 = (d' : Int) := by omega
    have HDD := Lib.hid hdd
    clear IH0 hdd
    obtain ⟨s0, s1, s2, s3, _, _, _, _⟩ := four_free HS1.out
    by_cases h4 : r = 4
    · have t1 : ((r : Int) == 4) = true := by simp <;> omega
      have t1' : (r == 4) = true := by simp <;> omega
      clear h4
      -- NOT
      go_wp2_with fail
      with_reducible refine (IH.out w1 HM1.out HN1.out).mono ?_
      rintro e w7 ⟨o7, m7, s7, u7, a7, n7, c7, x7, rfl, hx, hmx, hm, ho⟩
      have HO7 := Lib.hid ho
      have HX7 := Lib.hid hx
      have HMX7 := Lib.hid hmx
      have HM7 := Lib.hid hm
      have HR7 := Lib.hid (HR1.out.only ho (by omega))
      have hl7 := HR7.out.lt
      have hs7 := ho.size
      obtain ⟨x0, x1, x2, x3, x4, y0, y1, y2, y3, y4⟩ := five_free HR7.out
      clear hx hmx hm ho
      go_wp2_with fail
      refine bodyPost_ret (results_cell_row (p := 8) rfl _ _ R 28 #[.int .i64 3, .int .i64 0, .string ⟨#[]⟩, .int .i64 0, .slice (some ⟨w7.heap.size, 0, none⟩) 1 1] (0, 0) _ rfl ((put5 HR7.out).alloc _) Try.underlying28 rfl (by kernel_rfl)) rfl ?_
      rw [HDD.out]
      exact mc_kids (ks := [x7]) rfl (by omega) hMB.2 hMB.1 hl7 (HO1.out.trans HO7.out) HM7.out (fun w8 h1 h2 => lc_one (show w.heap.size ≤ w7.heap.size by omega) h2 (LC.mono (Q' := From w.heap.size) (by intro q hq _; have h3 : w1.heap.size ≤ q := hq; show w.heap.size ≤ q; omega) _ (HX7.out.keep (fun q hq hl => h1 q (by have h3 : w1.heap.size ≤ q := hq; omega) hl)))) (.not HMX7.out)
    · have t1 : ((r : Int) == 4) = false := by simp <;> omega
      have t1' : (r == 4) = false := by simp <;> omega
      clear h4
      -- TWO
      go_wp2_with fail
      with_reducible refine (pick_at B M 2 2 w1 HM1.out (by omega) (by omega) rfl).mono ?_
      rintro e w2 ⟨r2, rfl, hr2, hm2, ho2⟩
      have HR2 := Lib.hid (HR1.out.only ho2 (by omega))
      have HS2 := Lib.hid (HS1.out.only ho2 (by omega))
      have HM2 := Lib.hid hm2
      have HO2 := Lib.hid (HO1.out.trans ho2)
      have HN2 := Lib.hid (HN1.out.keep (Keeps.only ho2 (fun g hg => HQ.out g hg)))
      have hs2 := ho2.size
      clear hm2 ho2 HR1 HM1 HO1 HN1 HS1 s0 s1 s2 s3
      obtain ⟨s0, s1, s2, s3, _, _, _, _⟩ := four_free HS2.out
      go_wp2_with fail
      with_reducible refine (IH.out w2 HM2.out HN2.out).mono ?_
      rintro e w3 ⟨o3, m3, s3', u3, a3, n3, c3, xa3, rfl, hx3, hmx3, hm3, ho3⟩
      have HR3 := Lib.hid (HR2.out.only ho3 (by omega))
      have HS3 := Lib.hid (HS2.out.only ho3 (by omega))
      have HO3 := Lib.hid (HO2.out.trans ho3)
      have HN3 := Lib.hid (HN2.out.keep (Keeps.only ho3 (fun g hg => HQ.out g hg)))
      have HX3 := Lib.hid hx3
      have HMX3 := Lib.hid hmx3
      have HM3 := Lib.hid hm3
      have hs3 := ho3.size
      clear hx3 hmx3 hm3 ho3 HR2 HM2 HO2 HN2 HS2 s0 s1 s2 s3
      go_wp2_with fail
      have HA4 := Lib.hid (Blk.new w3 28 #[.int .i64 o3, .int .i64 m3, .string s3', .int .i64 u3, .slice a3 n3 c3])
      have hb4 : Below w3.heap.size w3 (w3.alloc (.cells #[.int .i64 o3, .int .i64 m3, .string s3', .int .i64 u3, .slice a3 n3 c3] 28)) := (Below.refl _ _).alloc (Nat.le_refl _) _
      have HR4 := Lib.hid (HR3.out.live' hb4)
      have HS4 := Lib.hid (HS3.out.live' hb4)
      have HM4 := Lib.hid (HM3.out.below hb4)
      have HO4 := Lib.hid (HO3.out.trans (Only.of_below hb4))
      have HN4 := Lib.hid ((HN3.out.keep (Keeps.below hb4 (Nat.le_refl _))).keep (Keeps.below (below_one _) (Nat.le_refl _)))
      have HX4 := Lib.hid (LC.mono (Q' := fun b => R < b) (by intro q hq _; have h1 : w2.heap.size ≤ q := hq; omega) _ (HX3.out.keep (Keeps.below hb4 (Nat.le_refl _))))
      have hs4 : w3.heap.size < (w3.alloc (.cells #[.int .i64 o3, .int .i64 m3, .string s3', .int .i64 u3, .slice a3 n3 c3] 28)).heap.size := HA4.out.lt
      clear hb4 HR3 HM3 HO3 HN3 HX3 HS3
      generalize w3.alloc (.cells #[.int .i64 o3, .int .i64 m3, .string s3', .int .i64 u3, .slice a3 n3 c3] 28) = w4 at *
      have wr1 : IntKind.i64.wrap (d' : Int) = (d' : Int) := IntWalk.i64_in _ (by omega)
      obtain ⟨p0, p1, p2, p3, p4, _, _, _, _, _⟩ := five_free HA4.out
      obtain ⟨s0, s1, s2, s3, _, _, _, _⟩ := four_free HS4.out
      go_region_with ((go_at_call 38; (with_reducible refine (IH.out _ HM4.out.drew HN4.out).mono ?_); rintro e w7 ⟨o7, m7, s7, u7, a7, n7, c7, x7, rfl, hx7, hmx7, hm7, ho7⟩; have HO7 := Lib.hid ((Only.refl (· = M) w4).drew.trans ho7); have HX7 := Lib.hid hx7; have HMX7 := Lib.hid hmx7; have HM7 := Lib.hid hm7; have hA7 := HA4.out.only HO7.out (by omega); have hR7 := HR4.out.only HO7.out (by omega); have hlA := hA7.lt; have hlR := hR7.lt; obtain ⟨x0, x1, x2, x3, x4, _, _, _, _, _⟩ := five_free hA7; obtain ⟨z0, z1, z2, z3, z4, y0, y1, y2, y3, y4⟩ := five_free hR7; obtain ⟨v0, v1, v2, v3, _, _, _, _⟩ := four_free (HS4.out.only HO7.out (by omega)); have HR7 := Lib.hid hR7; have hs7 := HO7.out.size; clear hA7 hR7 hx7 hmx7 hm7 ho7))
      all_goals
        go_wp2_with fail
        refine bodyPost_ret (results_cell_row (p := 8) rfl _ _ R 28 #[.int .i64 (4 + (r2 : Int)), .int .i64 0, .string ⟨#[]⟩, .int .i64 0, .slice (some ⟨w7.heap.size, 0, none⟩) 2 2] (0, 0) _ rfl ((put5 HR7.out).alloc _) Try.underlying28 rfl (by kernel_rfl)) rfl ?_
        rw [HDD.out]
        refine mc_kids (ks := [xa3, x7]) rfl (by omega) hMB.2 hMB.1 hlR (HO4.out.trans HO7.out) HM7.out (fun w8 h1 h2 => lc_two (show w.heap.size ≤ w7.heap.size by omega) h2 (LC.mono (Q' := From w.heap.size) (by intro q hq _; show w.heap.size ≤ q; omega) _ ((HX4.out.keep (Keeps.only HO7.out (by intro q hq e; omega))).keep (fun q hq hl => h1 q hq hl))) (LC.mono (Q' := From w.heap.size) (by intro q hq _; have h3 : w4.heap.size ≤ q := hq; show w.heap.size ≤ q; omega) _ (HX7.out.keep (fun q hq hl => h1 q (by have h3 : w4.heap.size ≤ q := hq; omega) hl)))) ?_
        have hr2' : r2 = 0 ∨ r2 = 1 := by omega
        rcases hr2' with rfl | rfl
        · exact .and HMX3.out HMX7.out
        · exact .or HMX3.out HMX7.out
  · clear IH0
    go_upto_region 2 with (fail)
    go_cut [20] (fun c wx => c = .bool false ∧ wx = w1)
    case first =>
      by_cases h0 : 0 < d
      · have e1 : decide ((0 : Int) < (d : Int)) = true := by simp <;> omega
        have e1' : decide (0 < d) = true := by simp <;> omega
        have h3 : ¬ 3 < r := fun h => hbin ⟨h0, h⟩
        have e2 : decide ((3 : Int) < (r : Int)) = false := by simp <;> omega
        have e2' : decide (3 < r) = false := by simp <;> omega
        clear hbin
        go_wp2_with fail
        go_meet
        case rel => exact ⟨rfl, rfl⟩
      · have e1 : decide ((0 : Int) < (d : Int)) = false := by simp <;> omega
        have e1' : decide (0 < d) = false := by simp <;> omega
        clear hbin
        go_wp2_with fail
        go_meet
        case rel => exact ⟨rfl, rfl⟩
    case rest =>
    obtain ⟨rfl, rfl⟩ := hcut
    clear hbin
    have hl1' := hl1
    go_wp2_with fail
    with_reducible refine (pick_at B M rg.length rg.length wc HM1.out hl1 (by omega) rfl).mono ?_
    rintro e w2 ⟨t, rfl, ht, hm2, ho2⟩
    have HR2 := Lib.hid (HR1.out.only ho2 (by omega))
    have HS2 := Lib.hid (HS1.out.only ho2 (by omega))
    have HM2 := Lib.hid hm2
    have HO2 := Lib.hid (HO1.out.trans ho2)
    have HN2 := Lib.hid (HN1.out.keep (Keeps.only ho2 (fun g hg => HQ.out g hg)))
    have hs2 := ho2.size
    clear hm2 ho2 HR1 HM1 HO1 HN1 HS1
    obtain ⟨g, off, hg, hgq, hcell⟩ : ∃ g off, av = some ⟨g, off, none⟩ ∧ (Q g ∧ g < w.heap.size) ∧ ∀ i, i < rg.length → ∃ u, w2.cell? ⟨g, off + i, none⟩ = some u ∧ Nms (fun g => Q g ∧ g < w.heap.size) w2 u (rg.getD i []) := by
      obtain ⟨a', c', he, h0⟩ := HN2.out
      injection he with h1 h2 h3
      subst h1
      rcases h0 with h0 | h0
      · rw [h0] at hl1
        simp at hl1
      · exact h0
    subst hg
    obtain ⟨u, hcu, hnu⟩ := hcell t ht
    have hrt : rg[t]? = some (rg.getD t []) := by rw [List.getD_eq_getElem?_getD, List.getElem?_eq_getElem ht]; rfl
    have HRT := Lib.hid hrt
    have hlr : (rg.getD t []).length ≤ 900 := HLL.out _ (List.mem_of_getElem? hrt)
    have hgM := HQ.out g hgq
    generalize rg.getD t [] = rs at *
    obtain ⟨au, cu, rfl, hnc⟩ := hnu
    have HNC := Lib.hid hnc
    have d1 : (0 : Int) ≤ (t : Int) := by omega
    have d2 : (t : Int) < (rg.length : Int) := by omega
    have hgl : g < w2.heap.size := World.block_lt_of_cell? w2 _ hcu
    clear hcell hrt hnc HN2
    obtain ⟨s0, s1, s2, s3, _, _, _, _⟩ := four_free HS2.out
    have hSl := HS2.out.lt
    go_upto_region 9 with (fail)
    go_cut [63] (fun c wx => c = .bool (decide (0 < r ∧ 0 < rs.length)) ∧ wx = w2)
    case first =>
      by_cases h0 : 0 < r
      · have e1 : decide ((0 : Int) < (r : Int)) = true := by simp <;> omega
        have e1' : decide (0 < r) = true := by simp <;> omega
        by_cases h1 : 0 < rs.length
        · have e2 : decide ((0 : Int) < (rs.length : Int)) = true := by simp <;> omega
          have e2' : decide (0 < rs.length) = true := by simp <;> omega
          have HDC := Lib.hid (show decide (0 < r ∧ 0 < rs.length) = true from decide_eq_true ⟨h0, h1⟩)
          go_wp2_with fail
          go_meet
          case rel => exact ⟨by rw [HDC.out], rfl⟩
        · have e2 : decide ((0 : Int) < (rs.length : Int)) = false := decide_eq_false (by omega)
          have e2' : decide (0 < rs.length) = false := decide_eq_false (by omega)
          have HDC := Lib.hid (show decide (0 < r ∧ 0 < rs.length) = false from decide_eq_false (fun h => h1 h.2))
          clear h1
          go_wp2_with fail
          go_meet
          case rel => exact ⟨by rw [HDC.out], rfl⟩
      · have e1 : decide ((0 : Int) < (r : Int)) = false := by simp <;> omega
        have e1' : decide (0 < r) = false := by simp <;> omega
        have HDC := Lib.hid (show decide (0 < r ∧ 0 < rs.length) = false from decide_eq_false (fun h => h0 h.1))
        clear h0
        go_wp2_with fail
        go_meet
        case rel => exact ⟨by rw [HDC.out], rfl⟩
    case rest =>
    obtain ⟨rfl, rfl⟩ := hcut
    by_cases hreg : 0 < r ∧ 0 < rs.length
    · have e9 : decide (0 < r ∧ 0 < rs.length) = true := decide_eq_true hreg
      obtain ⟨hr0, hrl⟩ := hreg
      obtain ⟨gu, ou, hgu, hguq, hcu2⟩ : ∃ g off, au = some ⟨g, off, none⟩ ∧ (Q g ∧ g < w.heap.size) ∧ ∀ i, i < rs.length → wc.cell? ⟨g, off + i, none⟩ = some (.string (bs (rs.getD i []))) := by
        rcases HNC.out with h0 | h0
        · rw [h0] at hrl
          simp at hrl
        · exact h0
      subst hgu
      have HCU2 := Lib.hid hcu2
      have hguM := HQ.out gu hguq
      have HP1 := Lib.hid (pick_at B M rs.length rs.length wc.drew HM2.out.drew (by omega) (by omega) rfl)
      clear hcu2
      -- REGIS
      go_wp2_with fail
      have HW7 := Lib.hid (fun (w' : World) (ho : Only (· = M) wc w') => (show w'.cell? ⟨g, off + t, none⟩ = some (.slice (some ⟨gu, ou, none⟩) rs.length cu) ∧ w'.cell? ⟨w.heap.size, 0, none⟩ = some (.int .i64 (v : Nat)) ∧ ∀ i, i < rs.length → w'.cell? ⟨gu, ou + i, none⟩ = some (.string (nmAt rs i)) from ⟨ho.cell hcu hgM, (HS2.out.only ho (by omega)).cell 0, fun i hi => ho.cell (HCU2.out i hi) hguM⟩))
      have HK0 := Lib.hid (HW7.out wc (Only.refl (· = M) wc))
      have HKD := Lib.hid (HW7.out wc.drew (Only.refl (· = M) wc).drew)
      have hSR : w.heap.size ≠ R := by omega
      have hgR : g ≠ R := by
        have := hgq.2
        omega
      have hguR : gu ≠ R := by
        have := hguq.2
        omega
      go_region_held3 (fun w' => w'.cell? ⟨g, off + t, none⟩ = some (.slice (some ⟨gu, ou, none⟩) rs.length cu) ∧ w'.cell? ⟨w.heap.size, 0, none⟩ = some (.int .i64 (v : Nat)) ∧ ∀ i, i < rs.length → w'.cell? ⟨gu, ou + i, none⟩ = some (.string (nmAt rs i)))
        (first
          | with_reducible exact HK0.out
          | with_reducible exact HKD.out
          | with_reducible assumption
          | exact cd_keep (f := fun i => .string (nmAt rs i)) hS4.1 hS4.2.2 hguR HSK.out hgR hSR _ _ _ _ _
          | go_keep)
        (first
          | (go_at_call 23; (with_reducible refine HP1.out.mono ?_); rintro e w3 ⟨j, rfl, hj, hm3, ho3⟩; have HO3 := Lib.hid ((Only.refl (· = M) wc).drew.trans ho3); have HM3 := Lib.hid hm3;  have hS3 := HW7.out w3 HO3.out; have j1 : (0 : Int) ≤ (j : Int) := (by omega); have j2 : (j : Int) < (rs.length : Int) := (by omega); have hs3 := HO3.out.size; clear hm3 ho3)
          | (go_at_call 23; (with_reducible refine (pick_at B M v v w3 HM3.out (by omega) (by omega) rfl).mono ?_); rintro e w4 ⟨nv, rfl, hnv, hm4, ho4⟩; have HO4 := Lib.hid (HO3.out.trans ho4); have HM4 := Lib.hid hm4;  have hS4 := HW7.out w4 HO4.out; have HSK := Lib.hid (HS2.out.only HO4.out (by omega)); have HR4 := Lib.hid (HR2.out.only HO4.out (by omega)); obtain ⟨x0, x1, x2, x3, x4, y0, y1, y2, y3, y4⟩ := five_free HR4.out; have hl4 := HR4.out.lt; clear hm4 ho4))
      all_goals
        go_wp2_with fail
        refine bodyPost_ret (results_cell_row (p := 8) rfl _ _ R 28 #[.int .i64 2, .int .i64 (t : Nat), .string (nmAt rs j), .int .i64 (nv : Nat), .slice none 0 0] (0, 0) _ rfl (put5 HR4.out) Try.underlying28 rfl (by kernel_rfl)) rfl ?_
        exact mc_leaf (by omega) hMB.2 hMB.1 (HO2.out.trans HO4.out) HM4.out (.reg HRT.out (by rw [List.getD_eq_getElem?_getD, List.getElem?_eq_getElem hj]; exact List.getElem_mem hj) hnv)
    · have e9 : decide (0 < r ∧ 0 < rs.length) = false := decide_eq_false hreg
      rw [e9]
      clear e9
      have HP1 := Lib.hid (pick_at B M k k wc.drew HM2.out.drew (by omega) (by omega) rfl)
      clear hreg
      -- MEM
      go_wp2_with fail
      have HW7 := Lib.hid (fun (w' : World) (ho : Only (· = M) wc w') => (show w'.cell? ⟨w.heap.size, 0, none⟩ = some (.int .i64 (v : Nat)) ∧ w'.cell? ⟨w.heap.size, 1, none⟩ = some (.int .i64 (k : Nat)) from ⟨(HS2.out.only ho (by omega)).cell 0, (HS2.out.only ho (by omega)).cell 1⟩))
      have HK0 := Lib.hid (HW7.out wc (Only.refl (· = M) wc))
      have HKD := Lib.hid (HW7.out wc.drew (Only.refl (· = M) wc).drew)
      have hSR : w.heap.size ≠ R := by omega
      go_region_held3 (fun w' => w'.cell? ⟨w.heap.size, 0, none⟩ = some (.int .i64 (v : Nat)) ∧ w'.cell? ⟨w.heap.size, 1, none⟩ = some (.int .i64 (k : Nat)))
        (first
          | with_reducible exact HK0.out
          | with_reducible exact HKD.out
          | with_reducible assumption
          | with_reducible exact cd_keep2 HSK.out hSR _ _ _ _ _
          | go_keep)
        (first
          | (go_at_call 36; (with_reducible refine (loc_any j (by omega) w3).mono ?_); rintro e w9 ⟨rfl, rfl⟩)
          | (go_at_call 23; (with_reducible refine HP1.out.mono ?_); rintro e w3 ⟨j, rfl, hj, hm3, ho3⟩; have HO3 := Lib.hid ((Only.refl (· = M) wc).drew.trans ho3); have HM3 := Lib.hid hm3; have hS3 := HW7.out w3 HO3.out; have hs3 := HO3.out.size; clear hm3 ho3)
          | (go_at_call 23; (with_reducible refine (pick_at B M v v w3 HM3.out (by omega) (by omega) rfl).mono ?_); rintro e w4 ⟨nv, rfl, hnv, hm4, ho4⟩; have HO4 := Lib.hid (HO3.out.trans ho4); have HM4 := Lib.hid hm4; have hS4 := HW7.out w4 HO4.out; have HSK := Lib.hid (HS2.out.only HO4.out (by omega)); have HR4 := Lib.hid (HR2.out.only HO4.out (by omega)); obtain ⟨x0, x1, x2, x3, x4, y0, y1, y2, y3, y4⟩ := five_free HR4.out; have hl4 := HR4.out.lt; clear hm4 ho4))
      all_goals
        go_wp2_with fail
        refine bodyPost_ret (results_cell_row (p := 8) rfl _ _ R 28 #[.int .i64 1, .int .i64 0, .string (bs [locB j]), .int .i64 (nv : Nat), .slice none 0 0] (0, 0) _ rfl (put5 HR4.out) Try.underlying28 rfl (by kernel_rfl)) rfl ?_
        exact mc_leaf (by omega) hMB.2 hMB.1 (HO2.out.trans HO4.out) HM4.out (.mem hj hnv)
theorem mcond_any (B M v k : Nat) (hv1 : 1 ≤ v) (hv : v ≤ 9) (hk1 : 1 ≤ k) (hk4 : k ≤ 4) (rg : List (List (List UInt8))) (vr : Value) (Q : Nat → Prop) (hq : ∀ g, Q g → g ≠ M) (hl1 : 1 ≤ rg.length) (hl : rg.length ≤ 10) (hll : ∀ r ∈ rg, r.length ≤ 900) : ∀ (d : Nat) (w : World), d ≤ 10 → Mk B w M → Rgs Q w vr rg →
    Calls Try.prog 38 #[.pointer (some ⟨M, 0, none⟩), .agg #[.int .i64 (v : Nat), .int .i64 (k : Nat), .bool false, .bool false], vr, .int .i64 (d : Nat)] w (McTo B M v k rg d w)
  | 0, w, hd, h, hn => mcond_step B M v k hv1 hv hk1 hk4 0 rg vr Q w hd h hn hq hl1 hl hll (fun d' e => by omega)
  | d + 1, w, hd, h, hn => mcond_step B M v k hv1 hv hk1 hk4 (d + 1) rg vr Q w hd h hn hq hl1 hl hll (fun d' e w h1 h2 => by
    obtain rfl : d = d' := by omega
    exact mcond_any B M v k hv1 hv hk1 hk4 rg vr Q hq hl1 hl hll d w (by omega) h1 h2)
end Go.Proofs.Ytlgnagmmljdkiab.Lx
