/-
  What Expr of a maker tells, as a contract: an expression that is made.
-/
import Derived.Test.YtlgnagmmljdkiabMWith
import Derived.Test.YtlgnagmmljdkiabPSame
import Derived.Deep.RegionWith
namespace Go.Proofs.Ytlgnagmmljdkiab.Lx
open Go.RowKit
open P (EX MX locB regB)
set_option maxRecDepth 100000
set_option linter.unusedVariables false
set_option linter.unusedSimpArgs false
/-- An expression that is made is told; only the maker goes on. -/
def MxTo (B M v : Nat) (rs : List (List UInt8)) (d : Nat) (w : World) (e : Ending) (w' : World) : Prop :=
  ∃ (o m : Int) (s : ByteArray) (a : Option Addr) (n c : Nat) (x : EX), e = .returned (.agg #[.int .i64 o, .int .i64 m, .string s, .slice a n c]) ∧ LX (From w.heap.size) w' (.agg #[.int .i64 o, .int .i64 m, .string s, .slice a n c]) x ∧ MX v rs d x ∧ Mk B w' M ∧ Only (· = M) w w'
theorem sign2_nat {r : Nat} (h : r < 4) : ∃ s, P.Sign2 (3 + (r : Int)) s := by
  rcases r with _ | _ | _ | _ | r
  · exact ⟨_, .plus⟩
  · exact ⟨_, .minus⟩
  · exact ⟨_, .eq⟩
  · exact ⟨_, .less⟩
  · omega
theorem mx_two {B M v d R : Nat} {rs : List (List UInt8)} {w w4 w7 : World} {op : Int} {sg : List UInt8} {o m o7 m7 : Int} {s s7 : ByteArray} {a a7 : Option Addr} {n c n7 c7 : Nat} {x x7 : EX} (hop : P.Sign2 op sg) (hR : R = w.heap.size) (hB : B ≤ w.heap.size) (hMB : M < B)
    (hx4 : LX (fun b => w.heap.size < b) w4 (.agg #[.int .i64 o, .int .i64 m, .string s, .slice a n c]) x) (hmx : MX v rs d x) (hO4 : Only (· = M) w w4) (hR4 : R < w4.heap.size) (hO7 : Only (· = M) w4 w7) (hx7 : LX (From w4.heap.size) w7 (.agg #[.int .i64 o7, .int .i64 m7, .string s7, .slice a7 n7 c7]) x7) (hmx7 : MX v rs d x7) (hm7 : Mk B w7 M) :
    MxTo B M v rs (d + 1) w (.returned (.agg #[.int .i64 op, .int .i64 0, .string ⟨#[]⟩, .slice (some ⟨w7.heap.size, 0, none⟩) 2 2])) (((((w7.setCell ⟨R, 0, none⟩ (.int .i64 op)).setCell ⟨R, 1, none⟩ (.int .i64 0)).setCell ⟨R, 2, none⟩ (.string ⟨#[]⟩)).setCell ⟨R, 3, none⟩ (.slice (some ⟨w7.heap.size, 0, none⟩) 2 2)).alloc (.cells #[.int .i64 o, .int .i64 m, .string s, .slice a n c, .int .i64 o7, .int .i64 m7, .string s7, .slice a7 n7 c7] 47)) := by
  subst hR
  have h47 := hO7.size
  have hp4 : Only (fun b => b = w.heap.size) w7 ((((w7.setCell ⟨w.heap.size, 0, none⟩ (.int .i64 op)).setCell ⟨w.heap.size, 1, none⟩ (.int .i64 0)).setCell ⟨w.heap.size, 2, none⟩ (.string ⟨#[]⟩)).setCell ⟨w.heap.size, 3, none⟩ (.slice (some ⟨w7.heap.size, 0, none⟩) 2 2)) := Only.put4 (Only.refl (fun b => b = w.heap.size) w7) (.inl rfl) _ _ _ _
  have hO8 := Only.put4 (hO4.trans hO7) (R := w.heap.size) (.inr (Nat.le_refl _)) (.int .i64 op) (.int .i64 0) (.string ⟨#[]⟩) (.slice (some ⟨w7.heap.size, 0, none⟩) 2 2)
  have hsz : ((((w7.setCell ⟨w.heap.size, 0, none⟩ (.int .i64 op)).setCell ⟨w.heap.size, 1, none⟩ (.int .i64 0)).setCell ⟨w.heap.size, 2, none⟩ (.string ⟨#[]⟩)).setCell ⟨w.heap.size, 3, none⟩ (.slice (some ⟨w7.heap.size, 0, none⟩) 2 2)).heap.size = w7.heap.size := by simp [World.setCell]
  generalize (((w7.setCell ⟨w.heap.size, 0, none⟩ (.int .i64 op)).setCell ⟨w.heap.size, 1, none⟩ (.int .i64 0)).setCell ⟨w.heap.size, 2, none⟩ (.string ⟨#[]⟩)).setCell ⟨w.heap.size, 3, none⟩ (.slice (some ⟨w7.heap.size, 0, none⟩) 2 2) = w8 at *
  have hK := Blk.new w8 47 #[.int .i64 o, .int .i64 m, .string s, .slice a n c, .int .i64 o7, .int .i64 m7, .string s7, .slice a7 n7 c7]
  have hb9 : Below w8.heap.size w8 (w8.alloc (.cells #[.int .i64 o, .int .i64 m, .string s, .slice a n c, .int .i64 o7, .int .i64 m7, .string s7, .slice a7 n7 c7] 47)) := (Below.refl _ _).alloc (Nat.le_refl _) _
  generalize w8.alloc (.cells #[.int .i64 o, .int .i64 m, .string s, .slice a n c, .int .i64 o7, .int .i64 m7, .string s7, .slice a7 n7 c7] 47) = w9 at *
  rw [hsz] at hK
  have hX9 := ((hx4.keep (Keeps.only hO7 (by intro q hq e; omega))).keep (Keeps.only hp4 (by intro q hq e; omega))).keep (Keeps.below hb9 (Nat.le_refl _))
  have hY9 := (hx7.keep (Keeps.only hp4 (by intro q hq e; have h1 : w4.heap.size ≤ q := hq; omega))).keep (Keeps.below hb9 (Nat.le_refl _))
  have hX := LX.mono (Q' := From w.heap.size) (by intro q hq _; show w.heap.size ≤ q; omega) _ hX9
  have hY := LX.mono (Q' := From w.heap.size) (by intro q hq _; have h1 : w4.heap.size ≤ q := hq; show w.heap.size ≤ q; omega) _ hY9
  exact ⟨op, 0, ⟨#[]⟩, some ⟨w7.heap.size, 0, none⟩, 2, 2, .mk op 0 [] [x, x7], rfl, lx_two (s := []) (show w.heap.size ≤ w7.heap.size by omega) hK hX hY, .bin hop hmx hmx7, (hm7.only hp4 (by intro g hg e; omega)).below hb9, hO8.trans (Only.of_below hb9)⟩
/-- An expression of two, or none, and of one. -/
theorem mx_one {B M v d : Nat} {rs : List (List UInt8)} {w w7 : World} {op k : Int} {s : List UInt8} (hB : B ≤ w.heap.size) (hMB : M < B) (hO : Only (· = M) w w7) (hm : Mk B w7 M) (hx : MX v rs d (.mk op k s [])) :
    MxTo B M v rs d w (.returned (.agg #[.int .i64 op, .int .i64 k, .string (bs s), .slice none 0 0])) ((((w7.setCell ⟨w.heap.size, 0, none⟩ (.int .i64 op)).setCell ⟨w.heap.size, 1, none⟩ (.int .i64 k)).setCell ⟨w.heap.size, 2, none⟩ (.string (bs s))).setCell ⟨w.heap.size, 3, none⟩ (.slice none 0 0)) := by
  have hp4 : Only (fun b => b = w.heap.size) w7 ((((w7.setCell ⟨w.heap.size, 0, none⟩ (.int .i64 op)).setCell ⟨w.heap.size, 1, none⟩ (.int .i64 k)).setCell ⟨w.heap.size, 2, none⟩ (.string (bs s))).setCell ⟨w.heap.size, 3, none⟩ (.slice none 0 0)) := Only.put4 (Only.refl (fun b => b = w.heap.size) w7) (.inl rfl) _ _ _ _
  exact ⟨op, k, bs s, none, 0, 0, _, rfl, lx_leaf _ _ op k s none 0, hx, hm.only hp4 (by intro g hg e; omega), Only.put4 hO (.inr (Nat.le_refl _)) _ _ _ _⟩
set_option maxHeartbeats 3200000 in
theorem mexpr_step (B M v : Nat) (hv1 : 1 ≤ v) (hv : v ≤ 9) (d : Nat) (rs : List (List UInt8)) (vr : Value) (Q : Nat → Prop) (w : World) (hd : d ≤ 10) (h : Mk B w M) (hn : Nms Q w vr rs) (hq : ∀ g, Q g → g ≠ M) (hl : rs.length ≤ 900)
    (ih : ∀ d', d = d' + 1 → ∀ (w : World), Mk B w M → Nms Q w vr rs → Calls Try.prog 20 #[.pointer (some ⟨M, 0, none⟩), vr, .int .i64 (v : Nat), .int .i64 (d' : Nat)] w (MxTo B M v rs d' w)) :
    Calls Try.prog 20 #[.pointer (some ⟨M, 0, none⟩), vr, .int .i64 (v : Nat), .int .i64 (d : Nat)] w (MxTo B M v rs d w) := by
  have IH0 := Lib.hid ih
  clear ih
  have HN := Lib.hid hn
  have HQ := Lib.hid hq
  have hMB := h.le
  obtain ⟨av, cv, rfl, hc⟩ := hn
  have HC := Lib.hid hc
  have HM := Lib.hid h
  clear h hc hq
  go_enter Try.func20, Try.ntmps20
  go_wp2_with fail
  have HR0 := Lib.hid (Blk.new w 47 zx)
  have hb0 : Below w.heap.size w (w.alloc (.cells zx 47)) := (Below.refl _ _).alloc (Nat.le_refl _) _
  have HM0 := Lib.hid (HM.out.below hb0)
  have HO0 := Lib.hid (Only.of_below (S := (· = M)) hb0)
  have HN0 := Lib.hid (HN.out.keep (Keeps.below hb0 (Nat.le_refl _)))
  have hs0 : w.heap.size < (w.alloc (.cells zx 47)).heap.size := HR0.out.lt
  clear hb0 HN HM
  generalize w.alloc (.cells zx 47) = w0 at *
  with_reducible refine (pick_at B M 8 8 w0 HM0.out (by omega) (by omega) rfl).mono ?_
  rintro e w1 ⟨r, rfl, hr, hm1, ho1⟩
  have HR1 := Lib.hid (HR0.out.only ho1 (by omega))
  have HM1 := Lib.hid hm1
  have HO1 := Lib.hid (HO0.out.trans ho1)
  have HN1 := Lib.hid (HN0.out.keep (Keeps.only ho1 (fun g hg => HQ.out g hg)))
  have hs1 := ho1.size
  clear hm1 ho1 HR0 HM0 HO0 HN0
  by_cases hbin : 0 < d ∧ 5 < r
  · obtain ⟨hd0, h5⟩ := hbin
    obtain ⟨d, rfl⟩ : ∃ d', d = d' + 1 := ⟨d - 1, by omega⟩
    have IH := Lib.hid (IH0.out d rfl)
    clear IH0
    have e1 : decide ((0 : Int) < ((d + 1 : Nat) : Int)) = true := by simp <;> omega
    have e1' : decide (0 < d + 1) = true := by simp
    have e1'' : decide ((0 : Int) < (d : Int) + 1) = true := by simp <;> omega
    have e2 : decide ((5 : Int) < (r : Int)) = true := by simp <;> omega
    have e2' : decide (5 < r) = true := by simp <;> omega
    go_wp2_with fail
    with_reducible refine (pick_at B M 4 4 w1 HM1.out (by omega) (by omega) rfl).mono ?_
    rintro e w2 ⟨r2, rfl, hr2, hm2, ho2⟩
    have HR2 := Lib.hid (HR1.out.only ho2 (by omega))
    have HM2 := Lib.hid hm2
    have HO2 := Lib.hid (HO1.out.trans ho2)
    have HN2 := Lib.hid (HN1.out.keep (Keeps.only ho2 (fun g hg => HQ.out g hg)))
    have hs2 := ho2.size
    clear hm2 ho2 HR1 HM1 HO1 HN1
    have ed : ((d + 1 : Nat) : Int) - 1 = (d : Int) := by omega
    have ed' : (d : Int) + 1 - 1 = (d : Int) := by omega
    go_wp2_with fail
    with_reducible refine (IH.out w2 HM2.out HN2.out).mono ?_
    rintro e w3 ⟨o3, m3, s3, a3, n3, c3, x3, rfl, hx3, hmx3, hm3, ho3⟩
    have HR3 := Lib.hid (HR2.out.only ho3 (by omega))
    have HO3 := Lib.hid (HO2.out.trans ho3)
    have HN3 := Lib.hid (HN2.out.keep (Keeps.only ho3 (fun g hg => HQ.out g hg)))
    have HX3 := Lib.hid hx3
    have HMX3 := Lib.hid hmx3
    have HM3 := Lib.hid hm3
    have hs3 := ho3.size
    clear hx3 hmx3 hm3 ho3 HR2 HM2 HO2 HN2
    go_wp2_with fail
    have HA4 := Lib.hid (Blk.new w3 47 #[.int .i64 o3, .int .i64 m3, .string s3, .slice a3 n3 c3])
    have hb4 : Below w3.heap.size w3 (w3.alloc (.cells #[.int .i64 o3, .int .i64 m3, .string s3, .slice a3 n3 c3] 47)) := (Below.refl _ _).alloc (Nat.le_refl _) _
    have HR4 := Lib.hid (HR3.out.live' hb4)
    have HM4 := Lib.hid (HM3.out.below hb4)
    have HO4 := Lib.hid (HO3.out.trans (Only.of_below hb4))
    have HN4 := Lib.hid ((HN3.out.keep (Keeps.below hb4 (Nat.le_refl _))).keep (Keeps.below (below_one _) (Nat.le_refl _)))
    have HX4 := Lib.hid (LX.mono (Q' := fun b => w.heap.size < b) (by intro q hq _; have h1 : w2.heap.size ≤ q := hq; omega) _ (HX3.out.keep (Keeps.below hb4 (Nat.le_refl _))))
    have hs4 : w3.heap.size < (w3.alloc (.cells #[.int .i64 o3, .int .i64 m3, .string s3, .slice a3 n3 c3] 47)).heap.size := HA4.out.lt
    clear hb4 HR3 HM3 HO3 HN3 HX3
    generalize w3.alloc (.cells #[.int .i64 o3, .int .i64 m3, .string s3, .slice a3 n3 c3] 47) = w4 at *
    have wr1 : IntKind.i64.wrap (d : Int) = (d : Int) := IntWalk.i64_in _ (by omega)
    obtain ⟨p0, p1, p2, p3, _, _, _, _⟩ := four_free HA4.out
    go_region_with ((go_at_call 20; (with_reducible refine (IH.out _ HM4.out.drew HN4.out).mono ?_); rintro e w7 ⟨o7, m7, s7, a7, n7, c7, x7, rfl, hx7, hmx7, hm7, ho7⟩; have HO7 := Lib.hid ((Only.refl (· = M) w4).drew.trans ho7); have HX7 := Lib.hid hx7; have HMX7 := Lib.hid hmx7; have HM7 := Lib.hid hm7; have hA7 := HA4.out.only HO7.out (by omega); have hR7 := HR4.out.only HO7.out (by omega); have hlA := hA7.lt; have hlR := hR7.lt; obtain ⟨x0, x1, x2, x3, _, _, _, _⟩ := four_free hA7; obtain ⟨z0, z1, z2, z3, y0, y1, y2, y3⟩ := four_free hR7; have HR7 := Lib.hid hR7; clear hA7 hR7 hx7 hmx7 hm7 ho7))
    all_goals
      go_wp2_with fail
      refine bodyPost_ret (results_cell_row (p := 8) rfl _ _ w.heap.size 47 #[.int .i64 (3 + (r2 : Int)), .int .i64 0, .string ⟨#[]⟩, .slice (some ⟨w7.heap.size, 0, none⟩) 2 2] (0, 0) _ rfl ((put4 HR7.out).alloc _) Try.underlying47 rfl (by kernel_rfl)) rfl ?_
      obtain ⟨sg, hsg⟩ := sign2_nat hr2
      exact mx_two hsg rfl hMB.2 hMB.1 HX4.out HMX3.out HO4.out (by omega) HO7.out HX7.out HMX7.out HM7.out
  · clear IH0
    have hfl : ∀ d : Nat, ¬ 0 < d → decide ((0 : Int) < (d : Int)) = false ∧ decide (0 < d) = false := fun d h => ⟨by simp <;> omega, by simp <;> omega⟩
    have htr : ∀ d : Nat, 0 < d → decide ((0 : Int) < (d : Int)) = true ∧ decide (0 < d) = true := fun d h => ⟨by simp <;> omega, by simp <;> omega⟩
    have hf5 : ¬ 5 < r → decide ((5 : Int) < (r : Int)) = false ∧ decide (5 < r) = false := fun h => ⟨by simp <;> omega, by simp <;> omega⟩
    have hf2 : ¬ 2 < r → decide ((2 : Int) < (r : Int)) = false ∧ decide (2 < r) = false := fun h => ⟨by simp <;> omega, by simp <;> omega⟩
    have HFL := Lib.hid hfl
    have HTR := Lib.hid htr
    have HF5 := Lib.hid hf5
    have HF2 := Lib.hid hf2
    clear hfl htr hf5 hf2
    by_cases hreg : 0 < rs.length ∧ 2 < r
    · obtain ⟨hl0, hr2⟩ := hreg
      obtain ⟨u1, u1'⟩ := HTR.out _ hl0
      have u2 : decide ((2 : Int) < (r : Int)) = true := by simp <;> omega
      have u2' : decide (2 < r) = true := by simp <;> omega
      obtain ⟨g, off, hg, hgq, hcell⟩ : ∃ g off, av = some ⟨g, off, none⟩ ∧ Q g ∧ ∀ i, i < rs.length → w1.cell? ⟨g, off + i, none⟩ = some (.string (bs (rs.getD i []))) := by
        obtain ⟨a', c', he, h0⟩ := HN1.out
        injection he with h1 h2 h3
        subst h1
        rcases h0 with h0 | h0
        · rw [h0] at hl0
          simp at hl0
        · exact h0
      subst hg
      have HCL := Lib.hid hcell
      have hgM := HQ.out g hgq
      clear hcell
      by_cases h0 : 0 < d
      · obtain ⟨e1, e1'⟩ := HTR.out _ h0
        obtain ⟨e2, e2'⟩ := HF5.out (fun h => hbin ⟨h0, h⟩)
        clear hbin
        go_wp2_with fail
        with_reducible refine (pick_at B M rs.length rs.length w1 HM1.out (by omega) (by omega) rfl).mono ?_
        rintro e w2 ⟨j, rfl, hj, hm2, ho2⟩
        have hcj : w2.cell? ⟨g, off + j, none⟩ = some (.string (bs (rs.getD j []))) := ho2.cell (HCL.out j hj) hgM
        have HS2 := Lib.hid (show rs.getD j [] ∈ rs by rw [List.getD_eq_getElem?_getD, List.getElem?_eq_getElem hj]; exact List.getElem_mem hj)
        have hR2 := HR1.out.only ho2 (by omega)
        obtain ⟨z0, z1, z2, z3, y0, y1, y2, y3⟩ := four_free hR2
        have HR2 := Lib.hid hR2
        have HM2 := Lib.hid hm2
        have HO2 := Lib.hid (HO1.out.trans ho2)
        have m1 : (0 : Int) ≤ (j : Int) := by omega
        have m2 : (j : Int) < (rs.length : Int) := by omega
        clear hm2 ho2 hR2 HR1 HM1 HO1 HN1
        generalize rs.getD j [] = s at *
        generalize hS : bs s = S at *
        have HSS := Lib.hid hS
        clear hS
        go_wp2_with fail
        refine bodyPost_ret (results_cell_row (p := 8) rfl _ _ w.heap.size 47 #[.int .i64 2, .int .i64 0, .string S, .slice none 0 0] (0, 0) _ rfl (put4 HR2.out) Try.underlying47 rfl (by kernel_rfl)) rfl ?_
        rw [← HSS.out]
        exact mx_one hMB.2 hMB.1 HO2.out HM2.out (.reg HS2.out)
      · obtain ⟨e1, e1'⟩ := HFL.out _ h0
        clear hbin
        go_wp2_with fail
        with_reducible refine (pick_at B M rs.length rs.length w1 HM1.out (by omega) (by omega) rfl).mono ?_
        rintro e w2 ⟨j, rfl, hj, hm2, ho2⟩
        have hcj : w2.cell? ⟨g, off + j, none⟩ = some (.string (bs (rs.getD j []))) := ho2.cell (HCL.out j hj) hgM
        have HS2 := Lib.hid (show rs.getD j [] ∈ rs by rw [List.getD_eq_getElem?_getD, List.getElem?_eq_getElem hj]; exact List.getElem_mem hj)
        have hR2 := HR1.out.only ho2 (by omega)
        obtain ⟨z0, z1, z2, z3, y0, y1, y2, y3⟩ := four_free hR2
        have HR2 := Lib.hid hR2
        have HM2 := Lib.hid hm2
        have HO2 := Lib.hid (HO1.out.trans ho2)
        have m1 : (0 : Int) ≤ (j : Int) := by omega
        have m2 : (j : Int) < (rs.length : Int) := by omega
        clear hm2 ho2 hR2 HR1 HM1 HO1 HN1
        generalize rs.getD j [] = s at *
        generalize hS : bs s = S at *
        have HSS := Lib.hid hS
        clear hS
        go_wp2_with fail
        refine bodyPost_ret (results_cell_row (p := 8) rfl _ _ w.heap.size 47 #[.int .i64 2, .int .i64 0, .string S, .slice none 0 0] (0, 0) _ rfl (put4 HR2.out) Try.underlying47 rfl (by kernel_rfl)) rfl ?_
        rw [← HSS.out]
        exact mx_one hMB.2 hMB.1 HO2.out HM2.out (.reg HS2.out)
    · have HREG := Lib.hid (show ∀ b : Bool, decide (0 < rs.length) = b → b = true → decide ((2 : Int) < (r : Int)) = false ∧ decide (2 < r) = false from fun b hb h => HF2.out (fun h2 => hreg ⟨by rw [h] at hb; simpa using hb, h2⟩))
      have HD5 := Lib.hid (show ∀ b : Bool, decide (0 < d) = b → b = true → decide ((5 : Int) < (r : Int)) = false ∧ decide (5 < r) = false from fun b hb h => HF5.out (fun h2 => hbin ⟨by rw [h] at hb; simpa using hb, h2⟩))
      have HL := Lib.hid (show decide ((0 : Int) < (rs.length : Int)) = decide (0 < rs.length) by by_cases h : 0 < rs.length <;> simp [h] <;> omega)
      have HD := Lib.hid (show decide ((0 : Int) < (d : Int)) = decide (0 < d) by by_cases h : 0 < d <;> simp [h] <;> omega)
      clear hreg hbin
      cases c1 : decide (0 < d) <;> cases c2 : decide (0 < rs.length)
      all_goals
        have c1i := HD.out.trans c1
        have c2i := HL.out.trans c2
        have x5 := HD5.out _ c1
        have x2 := HREG.out _ c2
        simp only [reduceCtorEq, false_implies, true_implies] at x5 x2
        try obtain ⟨x5a, x5b⟩ := x5
        try obtain ⟨x2a, x2b⟩ := x2
        go_wp2_with fail
        with_reducible refine (pick_at B M v v w1 HM1.out hv1 (by omega) rfl).mono ?_
        rintro e w2 ⟨j, rfl, hj, hm2, ho2⟩
        have hR2 := HR1.out.only ho2 (by omega)
        obtain ⟨z0, z1, z2, z3, y0, y1, y2, y3⟩ := four_free hR2
        have HR2 := Lib.hid hR2
        have HM2 := Lib.hid hm2
        have HO2 := Lib.hid (HO1.out.trans ho2)
        clear hm2 ho2 hR2 HR1 HM1 HO1 HN1
        go_wp2_with fail
        refine bodyPost_ret (results_cell_row (p := 8) rfl _ _ w.heap.size 47 #[.int .i64 1, .int .i64 (j : Nat), .string ⟨#[]⟩, .slice none 0 0] (0, 0) _ rfl (put4 HR2.out) Try.underlying47 rfl (by kernel_rfl)) rfl ?_
        exact mx_one (s := []) hMB.2 hMB.1 HO2.out HM2.out (.num hj)
theorem mexpr_any (B M v : Nat) (hv1 : 1 ≤ v) (hv : v ≤ 9) : ∀ (d : Nat) (rs : List (List UInt8)) (Q : Nat → Prop) (vr : Value) (w : World), d ≤ 10 → Mk B w M → Nms Q w vr rs → (∀ g, Q g → g ≠ M) → rs.length ≤ 900 →
    Calls Try.prog 20 #[.pointer (some ⟨M, 0, none⟩), vr, .int .i64 (v : Nat), .int .i64 (d : Nat)] w (MxTo B M v rs d w)
  | 0, rs, Q, vr, w, hd, h, hn, hq, hl => mexpr_step B M v hv1 hv 0 rs vr Q w hd h hn hq hl (fun d' e => by omega)
  | d + 1, rs, Q, vr, w, hd, h, hn, hq, hl => mexpr_step B M v hv1 hv (d + 1) rs vr Q w hd h hn hq hl (fun d' e w h1 h2 => by
    obtain rfl : d = d' := by omega
    exact mexpr_any B M v hv1 hv d rs Q vr w (by omega) h1 h2 hq hl)
theorem mexpr_at (B M v : Nat) (hv1 : 1 ≤ v) (hv : v ≤ 9) (d : Nat) (z : Int) (hz : z = (d : Int)) (rs : List (List UInt8)) (Q : Nat → Prop) (vr : Value) (w : World) (hd : d ≤ 10) (h : Mk B w M) (hn : Nms Q w vr rs) (hq : ∀ g, Q g → g ≠ M) (hl : rs.length ≤ 900) :
    Calls Try.prog 20 #[.pointer (some ⟨M, 0, none⟩), vr, .int .i64 (v : Nat), .int .i64 z] w (MxTo B M v rs d w) := by
  subst hz
  exact mexpr_any B M v hv1 hv d rs Q vr w hd h hn hq hl
end Go.Proofs.Ytlgnagmmljdkiab.Lx
