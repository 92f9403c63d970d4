/-
  The statement ReachOrders's own call returns true, whatever the arguments, and leaves what was there as it was.
-/
import Derived.Test.YtokehiehfgffmaaDoorKOrdMath
namespace Go.Proofs.YtokehiehfgffmaaDoor
open Go.RowKit
set_option linter.unusedVariables false
set_option linter.unusedSimpArgs false

def KMinR (n : Nat) (w4 : World) (k : Value) (wr : World) : Prop := ∃ j : Nat, j ≤ n ∧ k = .int .i64 j ∧ Blk wr w4.heap.size 3 (zcells (itab n (minus j))) ∧ Below w4.heap.size w4 wr
def KPlcR (n : Nat) (o : List Nat) (w4 : World) (k : Value) (wr : World) : Prop := ∃ j : Nat, j ≤ n ∧ k = .int .i64 j ∧ Blk wr w4.heap.size 3 (zcells (itab n (placed o j))) ∧ Below w4.heap.size w4 wr
def KAR (n : Nat) (wo : World) (k : Value) (wr : World) : Prop := ∃ j : Nat, j ≤ n ∧ k = .int .i64 j ∧ Below wo.heap.size wo wr
def KBR (n : Nat) (x : List Nat) (d : Nat → Nat) (a : Nat) (wo : World) (f k : Value) (wr : World) : Prop := ∃ (b F : Nat), b ≤ n ∧ k = .int .i64 b ∧ f = .int .i64 F ∧ F ≤ 64 ∧ FarTo x d a b F ∧ Below wo.heap.size wo wr
theorem cell_below {w w' : World} {p : Addr} {v : Value} (h : w.cell? p = some v) (hb : Below w.heap.size w w') : w'.cell? p = some v := (hb.cell (World.block_lt_of_cell? w _ h)).trans h
/-- An operation of a region that draws its order, taken first, its slot written out. -/
theorem take_at {P : Program} {md : Region.Mode} {ops : Array Oper} {Q : Exit → Act → World → Prop} {S : World → Prop} {i : Nat} {oi : Oper} {v : Value} {fuel : Nat} {listed : Array Bool} {a : Act} {w : World} (d : Tmp) (hi : ops[i]? = some oi) (hd : oi.dst = some d)
    (hs : Region.noSelect ops = true) (hf : Region.free md ops listed i = true) (hr : (Region.ready md ops listed).contains i = true)
    (hQ : ∀ c a w, Q (.panic c) (a.put (some d) v) w → Q (.panic c) a w) (hy : YieldsIf P ops S oi v a) (hS : S w)
    (h : wpAnyH P md ops Q S fuel (listed.setIfInBounds i true) (a.put (some d) v) w) : wpAnyH P md ops Q S (fuel + 1) listed a w :=
  wpAnyH_take hi hs hf hr (by rw [hd]; exact hQ) hy hS (by rw [hd]; exact h)
set_option maxHeartbeats 8000000 in
set_option maxRecDepth 100000 in
theorem korders_walk (a0 : Option Addr) (l0 c0 : Nat) (b0 : List Nat) (m : Nat) (down : Bool) (w : World)
    (hg : 0 < w.heap.size) (hT : Tab w) (h0 : IsBytes w a0 l0 b0) (hm : m < 256) :
    Calls Tryd.prog 6 #[.slice a0 l0 c0, .int .u8 (m : Nat), .bool down] w (Good w) := by
  have hTb : Tb w := ⟨hT, hg⟩
  have m0 := h0.2.1
  obtain ⟨n, hn⟩ : ∃ n, n = m % 16 + 1 := ⟨_, rfl⟩
  have hn16 : n ≤ 16 := by omega
  have hn1 : 1 ≤ n := by omega
  have HN := Lib.hid hn
  clear hn
  go_enter Tryd.func6, Tryd.ntmps6
  go_wp2_with fail
  refine (begun3_any w hTb).mono ?_
  rintro e w1 ⟨rfl, hB⟩
  by_cases q0 : 60 < l0
  · go_wp2
    go_ret
    exact ⟨rfl, hB⟩
  go_wp2_with fail
  with_reducible refine (ksome_any a0 l0 c0 m n down b0 _ HN.out (h0.below hB) hm (by omega)).mono ?_
  rintro e w2 ⟨x, ax, cx, hR, hdn, rfl, hx, hb⟩
  replace hB := hB.trans (hb.mono hB.size)
  clear hb
  have HOA := Lib.hid (ord_acy hR)
  have HR := Lib.hid hR
  have HDN := Lib.hid hdn
  have hmay := hR.2.2
  clear hdn hR
  go_wp2_with fail
  with_reducible refine (order_any ax n cx x _ hx (hTb.below hB)).mono ?_
  rw [HOA.out]
  rintro e w3 ⟨ao, co, rfl, ho, hb⟩
  replace hB := hB.trans (hb.mono hB.size)
  replace hx := hx.below hb
  clear hb
  go_wp2_with fail
  with_reducible refine (deep_any ax n cx x _ hx (hTb.below hB)).mono ?_
  rintro e w4 ⟨ad, cd, rfl, hd, hb⟩
  replace hB := hB.trans (hb.mono hB.size)
  replace hx := hx.below hb
  replace ho := ho.below hb
  clear hb
  cases hac : acyB x
  · -- nothing has an order
    have hdf : down = false := by
      cases hd : down
      · rfl
      · exfalso
        have hlt : ∀ i j, Way x i j → i < j := by
          intro i j hw
          induction hw with
          | one hb => exact HDN.out hd _ _ hb
          | on hb _ ih => exact Nat.lt_trans (HDN.out hd _ _ hb) ih
        have : acyB x = true := (acy_iff HR.out).2 fun i hw => absurd (hlt i i hw) (by omega)
        rw [hac] at this
        cases this
    subst hdf
    have e1 : ordL x = [] := ord_no (by rw [HOA.out, hac])
    have e2 : deepL x = [] := deep_no hac
    have HAC := acyclic_any ax n cx x _ hx (hTb.below hB)
    rw [hac] at HAC
    have HAC := Lib.hid HAC
    rw [e1, e2, List.length_nil]
    clear hac e1 e2 ho hd
    go_wp2_with fail
    refine HAC.out.mono ?_
    rintro e w5 ⟨rfl, hb⟩
    replace hB := hB.trans (hb.mono hB.size)
    clear hb
    go_wp2
    go_ret
    exact ⟨rfl, hB⟩
  · have hok : ordOk x = true := by rw [HOA.out, hac]
    have hord : Ordered n x (ordL x) := by
      have h0 : (ordEnd x).2 = 0 := by
        have := hok
        unfold ordOk at this
        rw [hmay, Bool.true_and, beq_iff_eq] at this
        exact this
      have := ordered HR.out h0
      simpa [ordL, hok] using this
    have hdeep : (deepL x).length = n ∧ (∀ v, v < n → R.row (deepL x) v < 64) ∧ IsDeep n x (R.row (deepL x)) := by
      have h0 : (deepEnd x).2 = 0 := by
        have := hac
        unfold acyB at this
        rw [hmay, Bool.true_and, beq_iff_eq] at this
        exact this
      have := deep_is HR.out h0
      simpa [deepL, hac] using this
    have HAC := acyclic_any ax n cx x _ hx (hTb.below hB)
    rw [hac] at HAC
    have HAC := Lib.hid HAC
    clear hok
    generalize ordL x = o at *
    generalize deepL x = ds at *
    obtain ⟨hdl, hd64, hdd⟩ := hdeep
    have hol := hord.len
    rw [hol, hdl]
    rw [hol] at ho
    rw [hdl] at hd
    obtain ⟨bo, oo, rfl, hco⟩ := ints_at ho (by omega) hol
    obtain ⟨bd, od, rfl, hcd⟩ := ints_at hd (by omega) hdl
    have HORD := Lib.hid hord
    have HD64 := Lib.hid hd64
    have HDD := Lib.hid hdd
    have HCO := Lib.hid hco
    have HCD := Lib.hid hcd
    have HX := Lib.hid hx
    clear hord hd64 hdd hco hcd ho hd hol hdl hx hac
    have hmk := run_make_row' (P := Tryd.prog) 28 3 (.int .i64 0) 8 Tryd.underlying28 Tryd.info3 rfl .i64 .i64 n (by omega) (by omega)
    cases hdw : down
    · clear hdw
      go_wp2_with fail
      refine HAC.out.mono ?_
      rintro e w5 ⟨rfl, hb⟩
      go_wp2
      replace hB := hB.trans (hb.mono hB.size)
      have HX5 := Lib.hid (HX.out.below hb)
      have HCO5 : Hid (∀ i, i < n → w5.cell? ⟨bo, oo + i, none⟩ = some (.int .i64 ((o.getD i 0 : Nat) : Int))) := fun i hi => cell_below (HCO.out i hi) hb
      have HCD5 : Hid (∀ i, i < n → w5.cell? ⟨bd, od + i, none⟩ = some (.int .i64 ((R.row ds i : Nat) : Int))) := fun i hi => cell_below (HCD.out i hi) hb
      have HSTART : Hid (KMinR n w5 (.int .i64 0) (w5.alloc (.cells (madeCells #[Value.int .i64 0] n) 3))) := show KMinR n w5 (.int .i64 0) (w5.alloc (.cells (madeCells #[Value.int .i64 0] n) 3)) from
        ⟨0, Nat.zero_le _, rfl, by
          have e : itab n (minus 0) = itab n fun _ => 0 := itab_congr fun v _ => by simp [minus]
          rw [e, ← made_itab]
          exact Blk.new _ _ _, (Below.refl _ _).alloc (Nat.le_refl _) _⟩
      clear hb hmk
      go_loopw [13] (fun k wr => KMinR n w5 k wr) (fun k _ => n - (intOf k).toNat)
      case atStart => exact HSTART.out
      case round =>
        obtain ⟨j, hj, rfl, hA, hbr⟩ := hrel
        by_cases hjn : j < n
        · have cj : wr.cell? ⟨w5.heap.size, j, none⟩ = some (.int .i64 (minus j j)) := by rw [hA.cell, itab_at _ _ _ hjn]
          have fj := hA.free j
          have hst := hA.set j (.int .i64 (-1))
          rw [zcells_set, minus_next] at hst
          have HST := Lib.hid hst
          have HBR := Lib.hid (hbr.setCell (p := ⟨w5.heap.size, j, none⟩) (Nat.le_refl _) (.int .i64 (-1)))
          have i1 : (0 : Int) ≤ (j : Int) := by omega
          have i2 : (j : Int) < (n : Int) := by omega
          clear hst hA hbr
          go_wp2
          go_roundw
          case rel => exact ⟨j + 1, by omega, by go_num, HST.out, HBR.out⟩
          case measure => simp [intOf]; omega
        · obtain rfl : j = n := by omega
          rw [placed_none j o] at hA
          have HA1 := Lib.hid hA
          have HB1 := Lib.hid hbr
          clear hA hbr
          go_wp2
          go_loopw [14] (fun k wr => KPlcR j o w5 k wr) (fun k _ => j - (intOf k).toNat)
          case atStart => exact ⟨0, Nat.zero_le _, rfl, HA1.out, HB1.out⟩
          case round =>
            obtain ⟨i, hi, rfl, hA, hbr⟩ := hrel
            by_cases hin : i < j
            · have coi := cell_below (HCO5.out i hin) hbr
              have hoin : o.getD i 0 < j := HORD.out.ins _ (getD_mem (by rw [HORD.out.len]; exact hin))
              have cat : wr.cell? ⟨w5.heap.size, o.getD i 0, none⟩ = some (.int .i64 (-1)) := by
                rw [hA.cell, itab_at _ _ _ hoin]
                unfold placed
                rw [idx_of HORD.out hin, if_neg (by omega)]
              have fat := hA.free (o.getD i 0)
              have hst := hA.set (o.getD i 0) (.int .i64 (i : Nat))
              rw [zcells_set, placed_next HORD.out hin] at hst
              have HST := Lib.hid hst
              have HBR := Lib.hid (hbr.setCell (p := ⟨w5.heap.size, o.getD i 0, none⟩) (Nat.le_refl _) (.int .i64 (i : Nat)))
              clear hst hA hbr
              generalize o.getD i 0 = v at *
              have i1 : (0 : Int) ≤ (i : Int) := by omega
              have i2 : (i : Int) < (j : Int) := by omega
              have i3 : (0 : Int) ≤ (v : Int) := by omega
              have i4 : (v : Int) < (j : Int) := by omega
              have i5 : ¬ (v : Int) < 0 := by omega
              have i6 : ¬ (j : Int) ≤ (v : Int) := by omega
              go_wp2
              go_roundw
              case rel => exact ⟨i + 1, by omega, by go_num, HST.out, HBR.out⟩
              case measure => simp [intOf]; omega
            · obtain rfl : i = j := by omega
              rw [placed_all HORD.out] at hA
              obtain ⟨wo, hwo⟩ : ∃ wo, wo = wr := ⟨_, rfl⟩
              subst hwo
              have HXO := Lib.hid (HX5.out.below hbr)
              have HCOO : Hid (∀ k, k < i → wo.cell? ⟨bo, oo + k, none⟩ = some (.int .i64 ((o.getD k 0 : Nat) : Int))) := fun k hk => cell_below (HCO5.out k hk) hbr
              have HCDO : Hid (∀ k, k < i → wo.cell? ⟨bd, od + k, none⟩ = some (.int .i64 ((R.row ds k : Nat) : Int))) := fun k hk => cell_below (HCD5.out k hk) hbr
              have HATO : Hid (∀ k, k < i → wo.cell? ⟨w5.heap.size, k, none⟩ = some (.int .i64 ((o.idxOf k : Nat) : Int))) := fun k hk => by rw [hA.cell, itab_at _ _ _ hk]
              have HBO := Lib.hid (hB.trans (hbr.mono hB.size))
              have hgat : w5.heap.size < wo.heap.size := hA.lt
              clear hA hbr hB
              generalize w5.heap.size = ga at *
              go_wp2
              go_loopw [15] (fun k wr => KAR i wo k wr) (fun k _ => i - (intOf k).toNat)
              case atStart => exact ⟨0, Nat.zero_le _, rfl, Below.refl _ _⟩
              case round =>
                obtain ⟨a, ha, rfl, hbr⟩ := hrel
                have HBR := Lib.hid hbr
                clear hbr
                by_cases han : a < i
                · go_wp2
                  go_loopw [16, 17] (fun f k wr => KBR i x (R.row ds) a wo f k wr) (fun _ k _ => i - (intOf k).toNat)
                  case atStart => exact ⟨0, 0, Nat.zero_le _, rfl, rfl, by omega, FarTo.start _ _ _, HBR.out⟩
                  case round =>
                    clear HBR
                    obtain ⟨b, F, hb, rfl, rfl, hF64, hF, hbr⟩ := hrel
                    have HFT := Lib.hid hF
                    have HBR := Lib.hid hbr
                    clear hF hbr
                    by_cases hbn : b < i
                    · have hxr := HXO.out.below HBR.out
                      have hTr : Tb wr := hTb.below (HBO.out.trans (HBR.out.mono HBO.out.size))
                      have H1 := hasR_any ax i cx (a : Nat) (b : Nat) x (wr.drewN 1) (hxr.drewN 1) (hTr.drewN 1)
                      rw [has_rel HR.out a b han] at H1
                      have HH2 : Hid (∀ w7, Below wo.heap.size wo w7 → Calls Tryd.prog 35 #[.slice ax i cx, .int .i64 (b : Nat), .int .i64 (a : Nat)] w7 (Ans (.bool ((R.row x b).testBit a)) w7)) := fun w7 h7 => by
                        have := hasR_any ax i cx (b : Nat) (a : Nat) x w7 (HXO.out.below h7) (hTb.below (HBO.out.trans (h7.mono HBO.out.size)))
                        rwa [has_rel HR.out b a hbn] at this
                      have hd64a := HD64.out a han
                      have hd64b := HD64.out b hbn
                      have HQ : Hid (bf x a b → o.idxOf a < o.idxOf b ∧ R.row ds a + 1 ≤ R.row ds b) := fun h => ⟨place_lt HR.out HORD.out h, HDD.out.1 a b h⟩
                      have HK7 : Hid (∀ w7, Below wo.heap.size wo w7 → w7.cell? ⟨ga, a, none⟩ = some (.int .i64 ((o.idxOf a : Nat) : Int)) ∧ w7.cell? ⟨ga, b, none⟩ = some (.int .i64 ((o.idxOf b : Nat) : Int)) ∧ w7.cell? ⟨bd, od + a, none⟩ = some (.int .i64 ((R.row ds a : Nat) : Int)) ∧ w7.cell? ⟨bd, od + b, none⟩ = some (.int .i64 ((R.row ds b : Nat) : Int))) := fun w7 h7 => ⟨cell_below (HATO.out a han) h7, cell_below (HATO.out b hbn) h7, cell_below (HCDO.out a han) h7, cell_below (HCDO.out b hbn) h7⟩
                      have HK0 := Lib.hid (HK7.out wr HBR.out)
                      have HSK := Lib.hid (fun h => HFT.out.skip (b := b) h)
                      have HHT := Lib.hid (fun h1 h2 => HFT.out.hit (b := b) h1 h2)
                      clear hxr hTr
                      generalize hpa : o.idxOf a = pa at *
                      generalize hpb : o.idxOf b = pb at *
                      generalize hda : R.row ds a = da at *
                      generalize hdb : R.row ds b = db at *
                      have i1 : (0 : Int) ≤ (a : Int) := by omega
                      have i2 : (a : Int) < (i : Int) := by omega
                      have i3 : (0 : Int) ≤ (b : Int) := by omega
                      have i4 : (b : Int) < (i : Int) := by omega
                      clear hpa hpb hda hdb
                      cases hab : (R.row x a).testBit b
                      · rw [hab] at H1
                        have H1 := Lib.hid H1
                        clear hab
                        go_wp2_with fail
                        refine wp_region_held_drew (S := fun _ => True) (by kernel_rfl) trivial (fun hHeld => ?_)
                        refine take_at (i := 0) (v := .slice ax i cx) 142 rfl rfl (by kernel_rfl) (by kernel_rfl) (by kernel_rfl) (fun _ _ _ h => h) (Or.inl ⟨by kernel_rfl, fun w hSw => by kernel_rfl⟩) hHeld ?_
                        try simp only [Act.put, List.setIfInBounds_toArray, List.set_cons_zero, List.set_cons_succ]
                        refine take_at (i := 1) (v := .int .i64 (a : Nat)) 143 rfl rfl (by kernel_rfl) (by kernel_rfl) (by kernel_rfl) (fun _ _ _ h => h) (Or.inl ⟨by kernel_rfl, fun w hSw => by kernel_rfl⟩) hHeld ?_
                        try simp only [Act.put, List.setIfInBounds_toArray, List.set_cons_zero, List.set_cons_succ]
                        refine take_at (i := 2) (v := .int .i64 (b : Nat)) 144 rfl rfl (by kernel_rfl) (by kernel_rfl) (by kernel_rfl) (fun _ _ _ h => h) (Or.inl ⟨by kernel_rfl, fun w hSw => by kernel_rfl⟩) hHeld ?_
                        try simp only [Act.put, List.setIfInBounds_toArray, List.set_cons_zero, List.set_cons_succ]
                        refine wpAnyH_ready (rs := [3]) (by kernel_rfl) (by simp) ?_
                        refine AllReadyH.cons (o := _) rfl (fun K hK => ?_) AllReadyH.nil
                        go_simp
                        refine H1.out.mono ?_
                        rintro e w7 ⟨rfl, hb7⟩
                        have h7 : Below wo.heap.size wo w7 := HBR.out.trans (((below_drewN (Below.refl _ _) 1).trans hb7).mono HBR.out.size)
                        clear hb7
                        clear hHeld
                        refine hK.out _ _ trivial (fun hHeld => ?_)
                        clear hK K
                        try simp only [Act.put, List.setIfInBounds_toArray, List.set_cons_zero, List.set_cons_succ]
                        refine take_at (i := 4) (v := .bool false) 146 rfl rfl (by kernel_rfl) (by kernel_rfl) (by kernel_rfl) (fun _ _ _ h => h) (Or.inl ⟨by kernel_rfl, fun w hSw => by kernel_rfl⟩) hHeld ?_
                        try simp only [Act.put, List.setIfInBounds_toArray, List.set_cons_zero, List.set_cons_succ]
                        refine take_at (i := 5) (v := undef) 147 rfl rfl (by kernel_rfl) (by kernel_rfl) (by kernel_rfl) (fun _ _ _ h => h) (Or.inr ⟨by kernel_rfl, rfl⟩) hHeld ?_
                        try simp only [Act.put, List.setIfInBounds_toArray, List.set_cons_zero, List.set_cons_succ]
                        refine take_at (i := 6) (v := undef) 148 rfl rfl (by kernel_rfl) (by kernel_rfl) (by kernel_rfl) (fun _ _ _ h => h) (Or.inr ⟨by kernel_rfl, rfl⟩) hHeld ?_
                        try simp only [Act.put, List.setIfInBounds_toArray, List.set_cons_zero, List.set_cons_succ]
                        refine take_at (i := 7) (v := undef) 149 rfl rfl (by kernel_rfl) (by kernel_rfl) (by kernel_rfl) (fun _ _ _ h => h) (Or.inr ⟨by kernel_rfl, rfl⟩) hHeld ?_
                        try simp only [Act.put, List.setIfInBounds_toArray, List.set_cons_zero, List.set_cons_succ]
                        refine take_at (i := 8) (v := undef) 150 rfl rfl (by kernel_rfl) (by kernel_rfl) (by kernel_rfl) (fun _ _ _ h => h) (Or.inr ⟨by kernel_rfl, rfl⟩) hHeld ?_
                        try simp only [Act.put, List.setIfInBounds_toArray, List.set_cons_zero, List.set_cons_succ]
                        refine take_at (i := 9) (v := undef) 151 rfl rfl (by kernel_rfl) (by kernel_rfl) (by kernel_rfl) (fun _ _ _ h => h) (Or.inr ⟨by kernel_rfl, rfl⟩) hHeld ?_
                        try simp only [Act.put, List.setIfInBounds_toArray, List.set_cons_zero, List.set_cons_succ]
                        refine take_at (i := 10) (v := undef) 152 rfl rfl (by kernel_rfl) (by kernel_rfl) (by kernel_rfl) (fun _ _ _ h => h) (Or.inr ⟨by kernel_rfl, rfl⟩) hHeld ?_
                        try simp only [Act.put, List.setIfInBounds_toArray, List.set_cons_zero, List.set_cons_succ]
                        refine take_at (i := 11) (v := undef) 153 rfl rfl (by kernel_rfl) (by kernel_rfl) (by kernel_rfl) (fun _ _ _ h => h) (Or.inr ⟨by kernel_rfl, rfl⟩) hHeld ?_
                        try simp only [Act.put, List.setIfInBounds_toArray, List.set_cons_zero, List.set_cons_succ]
                        refine take_at (i := 12) (v := undef) 154 rfl rfl (by kernel_rfl) (by kernel_rfl) (by kernel_rfl) (fun _ _ _ h => h) (Or.inr ⟨by kernel_rfl, rfl⟩) hHeld ?_
                        try simp only [Act.put, List.setIfInBounds_toArray, List.set_cons_zero, List.set_cons_succ]
                        refine take_at (i := 13) (v := undef) 155 rfl rfl (by kernel_rfl) (by kernel_rfl) (by kernel_rfl) (fun _ _ _ h => h) (Or.inr ⟨by kernel_rfl, rfl⟩) hHeld ?_
                        try simp only [Act.put, List.setIfInBounds_toArray, List.set_cons_zero, List.set_cons_succ]
                        refine take_at (i := 14) (v := undef) 156 rfl rfl (by kernel_rfl) (by kernel_rfl) (by kernel_rfl) (fun _ _ _ h => h) (Or.inr ⟨by kernel_rfl, rfl⟩) hHeld ?_
                        try simp only [Act.put, List.setIfInBounds_toArray, List.set_cons_zero, List.set_cons_succ]
                        refine take_at (i := 15) (v := undef) 157 rfl rfl (by kernel_rfl) (by kernel_rfl) (by kernel_rfl) (fun _ _ _ h => h) (Or.inr ⟨by kernel_rfl, rfl⟩) hHeld ?_
                        try simp only [Act.put, List.setIfInBounds_toArray, List.set_cons_zero, List.set_cons_succ]
                        refine take_at (i := 16) (v := undef) 158 rfl rfl (by kernel_rfl) (by kernel_rfl) (by kernel_rfl) (fun _ _ _ h => h) (Or.inr ⟨by kernel_rfl, rfl⟩) hHeld ?_
                        try simp only [Act.put, List.setIfInBounds_toArray, List.set_cons_zero, List.set_cons_succ]
                        refine take_at (i := 17) (v := undef) 159 rfl rfl (by kernel_rfl) (by kernel_rfl) (by kernel_rfl) (fun _ _ _ h => h) (Or.inr ⟨by kernel_rfl, rfl⟩) hHeld ?_
                        try simp only [Act.put, List.setIfInBounds_toArray, List.set_cons_zero, List.set_cons_succ]
                        refine take_at (i := 18) (v := undef) 160 rfl rfl (by kernel_rfl) (by kernel_rfl) (by kernel_rfl) (fun _ _ _ h => h) (Or.inr ⟨by kernel_rfl, rfl⟩) hHeld ?_
                        try simp only [Act.put, List.setIfInBounds_toArray, List.set_cons_zero, List.set_cons_succ]
                        refine take_at (i := 19) (v := undef) 161 rfl rfl (by kernel_rfl) (by kernel_rfl) (by kernel_rfl) (fun _ _ _ h => h) (Or.inr ⟨by kernel_rfl, rfl⟩) hHeld ?_
                        try simp only [Act.put, List.setIfInBounds_toArray, List.set_cons_zero, List.set_cons_succ]
                        refine take_at (i := 20) (v := undef) 162 rfl rfl (by kernel_rfl) (by kernel_rfl) (by kernel_rfl) (fun _ _ _ h => h) (Or.inr ⟨by kernel_rfl, rfl⟩) hHeld ?_
                        try simp only [Act.put, List.setIfInBounds_toArray, List.set_cons_zero, List.set_cons_succ]
                        refine take_at (i := 21) (v := undef) 163 rfl rfl (by kernel_rfl) (by kernel_rfl) (by kernel_rfl) (fun _ _ _ h => h) (Or.inr ⟨by kernel_rfl, rfl⟩) hHeld ?_
                        try simp only [Act.put, List.setIfInBounds_toArray, List.set_cons_zero, List.set_cons_succ]
                        refine take_at (i := 22) (v := undef) 164 rfl rfl (by kernel_rfl) (by kernel_rfl) (by kernel_rfl) (fun _ _ _ h => h) (Or.inr ⟨by kernel_rfl, rfl⟩) hHeld ?_
                        try simp only [Act.put, List.setIfInBounds_toArray, List.set_cons_zero, List.set_cons_succ]
                        refine take_at (i := 23) (v := undef) 165 rfl rfl (by kernel_rfl) (by kernel_rfl) (by kernel_rfl) (fun _ _ _ h => h) (Or.inr ⟨by kernel_rfl, rfl⟩) hHeld ?_
                        try simp only [Act.put, List.setIfInBounds_toArray, List.set_cons_zero, List.set_cons_succ]
                        refine take_at (i := 24) (v := undef) 166 rfl rfl (by kernel_rfl) (by kernel_rfl) (by kernel_rfl) (fun _ _ _ h => h) (Or.inr ⟨by kernel_rfl, rfl⟩) hHeld ?_
                        try simp only [Act.put, List.setIfInBounds_toArray, List.set_cons_zero, List.set_cons_succ]
                        refine take_at (i := 25) (v := undef) 167 rfl rfl (by kernel_rfl) (by kernel_rfl) (by kernel_rfl) (fun _ _ _ h => h) (Or.inr ⟨by kernel_rfl, rfl⟩) hHeld ?_
                        try simp only [Act.put, List.setIfInBounds_toArray, List.set_cons_zero, List.set_cons_succ]
                        refine take_at (i := 26) (v := .bool false) 168 rfl rfl (by kernel_rfl) (by kernel_rfl) (by kernel_rfl) (fun _ _ _ h => h) (Or.inl ⟨by kernel_rfl, fun w hSw => by kernel_rfl⟩) hHeld ?_
                        try simp only [Act.put, List.setIfInBounds_toArray, List.set_cons_zero, List.set_cons_succ]
                        refine wpAnyH_done (by kernel_rfl) ?_ _
                        have H7 := Lib.hid h7
                        obtain ⟨_, _, _, k4⟩ := HK7.out w7 h7
                        have H2 := HH2.out w7 h7
                        clear hHeld
                        clear h7
                        cases hba : (R.row x b).testBit a
                        · rw [hba] at H2
                          have HNX : Hid (FarTo x (R.row ds) a (b + 1) F) := HSK.out (fun h => by
                            rw [bf, hba] at h
                            cases h)
                          have H2 := Lib.hid H2
                          clear hba
                          go_wp2_with fail
                          refine H2.out.mono ?_
                          rintro e w8 ⟨rfl, hb8⟩
                          have HB8 := Lib.hid (H7.out.trans (hb8.mono H7.out.size))
                          clear hb8
                          go_wp2
                          go_roundw
                          case rel => exact ⟨b + 1, F, by omega, by go_num, rfl, hF64, HNX.out, HB8.out⟩
                          case measure => simp [intOf]; omega
                        · rw [hba] at H2
                          have H2 := Lib.hid H2
                          by_cases hgt : F < db + 1
                          · have HNX : Hid (FarTo x (R.row ds) a (b + 1) (db + 1)) := HHT.out hba hgt
                            have g6 : (F : Int) < (db : Int) + 1 := by omega
                            clear hba
                            go_wp2_with fail
                            refine H2.out.mono ?_
                            rintro e w8 ⟨rfl, hb8⟩
                            have h8 := H7.out.trans (hb8.mono H7.out.size)
                            have HB8 := Lib.hid h8
                            obtain ⟨_, _, _, k8⟩ := HK7.out w8 h8
                            clear hb8 h8 k4
                            go_wp2
                            go_roundw
                            case rel => exact ⟨b + 1, db + 1, by omega, by go_num, by go_num, by omega, HNX.out, HB8.out⟩
                            case measure => simp [intOf]; omega
                          · have HNX : Hid (FarTo x (R.row ds) a (b + 1) F) := HSK.out (fun _ => by omega)
                            have g6 : ¬ (F : Int) < (db : Int) + 1 := by omega
                            clear hba
                            go_wp2_with fail
                            refine H2.out.mono ?_
                            rintro e w8 ⟨rfl, hb8⟩
                            have h8 := H7.out.trans (hb8.mono H7.out.size)
                            have HB8 := Lib.hid h8
                            obtain ⟨_, _, _, k8⟩ := HK7.out w8 h8
                            clear hb8 h8 k4
                            go_wp2
                            go_roundw
                            case rel => exact ⟨b + 1, F, by omega, by go_num, rfl, hF64, HNX.out, HB8.out⟩
                            case measure => simp [intOf]; omega
                      · rw [hab] at H1
                        have H1 := Lib.hid H1
                        obtain ⟨g1, g2⟩ := HQ.out hab
                        have g3 : ¬ (pb : Int) ≤ (pa : Int) := by omega
                        have g4 : ¬ (db : Int) < (da : Int) + 1 := by omega
                        have g5 : IntKind.i64.wrap ((da : Int) + 1) = (da : Int) + 1 := by rw [IntKind.wrap_i64]; omega
                        clear hab
                        go_wp2_with fail
                        refine wp_region_held_drew (S := fun w' => w'.cell? ⟨ga, a, none⟩ = some (.int .i64 (pa : Nat)) ∧ w'.cell? ⟨ga, b, none⟩ = some (.int .i64 (pb : Nat)) ∧ w'.cell? ⟨bd, od + a, none⟩ = some (.int .i64 (da : Nat)) ∧ w'.cell? ⟨bd, od + b, none⟩ = some (.int .i64 (db : Nat))) (by kernel_rfl) HK0.out (fun hHeld => ?_)
                        refine take_at (i := 0) (v := .slice ax i cx) 142 rfl rfl (by kernel_rfl) (by kernel_rfl) (by kernel_rfl) (fun _ _ _ h => h) (Or.inl ⟨by kernel_rfl, fun w hSw => by kernel_rfl⟩) hHeld ?_
                        try simp only [Act.put, List.setIfInBounds_toArray, List.set_cons_zero, List.set_cons_succ]
                        refine take_at (i := 1) (v := .int .i64 (a : Nat)) 143 rfl rfl (by kernel_rfl) (by kernel_rfl) (by kernel_rfl) (fun _ _ _ h => h) (Or.inl ⟨by kernel_rfl, fun w hSw => by kernel_rfl⟩) hHeld ?_
                        try simp only [Act.put, List.setIfInBounds_toArray, List.set_cons_zero, List.set_cons_succ]
                        refine take_at (i := 2) (v := .int .i64 (b : Nat)) 144 rfl rfl (by kernel_rfl) (by kernel_rfl) (by kernel_rfl) (fun _ _ _ h => h) (Or.inl ⟨by kernel_rfl, fun w hSw => by kernel_rfl⟩) hHeld ?_
                        try simp only [Act.put, List.setIfInBounds_toArray, List.set_cons_zero, List.set_cons_succ]
                        refine wpAnyH_ready (rs := [3]) (by kernel_rfl) (by simp) ?_
                        refine AllReadyH.cons (o := _) rfl (fun K hK => ?_) AllReadyH.nil
                        go_simp
                        refine H1.out.mono ?_
                        rintro e w7 ⟨rfl, hb7⟩
                        have h7 : Below wo.heap.size wo w7 := HBR.out.trans (((below_drewN (Below.refl _ _) 1).trans hb7).mono HBR.out.size)
                        clear hb7
                        clear hHeld
                        refine hK.out _ _ (HK7.out w7 h7) (fun hHeld => ?_)
                        clear hK K
                        try simp only [Act.put, List.setIfInBounds_toArray, List.set_cons_zero, List.set_cons_succ]
                        refine take_at (i := 4) (v := .bool true) 146 rfl rfl (by kernel_rfl) (by kernel_rfl) (by kernel_rfl) (fun _ _ _ h => h) (Or.inl ⟨by kernel_rfl, fun w hSw => by kernel_rfl⟩) hHeld ?_
                        try simp only [Act.put, List.setIfInBounds_toArray, List.set_cons_zero, List.set_cons_succ]
                        refine take_at (i := 5) (v := .slice (some ⟨ga, 0, none⟩) i i) 147 rfl rfl (by kernel_rfl) (by kernel_rfl) (by kernel_rfl) (fun _ _ _ h => h) (Or.inl ⟨by kernel_rfl, fun w hSw => by kernel_rfl⟩) hHeld ?_
                        try simp only [Act.put, List.setIfInBounds_toArray, List.set_cons_zero, List.set_cons_succ]
                        refine take_at (i := 6) (v := .int .i64 (a : Nat)) 148 rfl rfl (by kernel_rfl) (by kernel_rfl) (by kernel_rfl) (fun _ _ _ h => h) (Or.inl ⟨by kernel_rfl, fun w hSw => by kernel_rfl⟩) hHeld ?_
                        try simp only [Act.put, List.setIfInBounds_toArray, List.set_cons_zero, List.set_cons_succ]
                        refine take_at (i := 7) (v := .pointer (some ⟨ga, a, none⟩)) 149 rfl rfl (by kernel_rfl) (by kernel_rfl) (by kernel_rfl) (fun _ _ _ h => h) (Or.inl ⟨by kernel_rfl, fun w hSw => by obtain ⟨s1, s2, s3, s4⟩ := hSw; go_simp <;> first | omega | (simp; omega)⟩) hHeld ?_
                        try simp only [Act.put, List.setIfInBounds_toArray, List.set_cons_zero, List.set_cons_succ]
                        refine take_at (i := 8) (v := .int .i64 (pa : Nat)) 150 rfl rfl (by kernel_rfl) (by kernel_rfl) (by kernel_rfl) (fun _ _ _ h => h) (Or.inl ⟨by kernel_rfl, fun w hSw => by obtain ⟨s1, s2, s3, s4⟩ := hSw; go_simp <;> first | omega | (simp; omega)⟩) hHeld ?_
                        try simp only [Act.put, List.setIfInBounds_toArray, List.set_cons_zero, List.set_cons_succ]
                        refine take_at (i := 9) (v := .slice (some ⟨ga, 0, none⟩) i i) 151 rfl rfl (by kernel_rfl) (by kernel_rfl) (by kernel_rfl) (fun _ _ _ h => h) (Or.inl ⟨by kernel_rfl, fun w hSw => by kernel_rfl⟩) hHeld ?_
                        try simp only [Act.put, List.setIfInBounds_toArray, List.set_cons_zero, List.set_cons_succ]
                        refine take_at (i := 10) (v := .int .i64 (b : Nat)) 152 rfl rfl (by kernel_rfl) (by kernel_rfl) (by kernel_rfl) (fun _ _ _ h => h) (Or.inl ⟨by kernel_rfl, fun w hSw => by kernel_rfl⟩) hHeld ?_
                        try simp only [Act.put, List.setIfInBounds_toArray, List.set_cons_zero, List.set_cons_succ]
                        refine take_at (i := 11) (v := .pointer (some ⟨ga, b, none⟩)) 153 rfl rfl (by kernel_rfl) (by kernel_rfl) (by kernel_rfl) (fun _ _ _ h => h) (Or.inl ⟨by kernel_rfl, fun w hSw => by obtain ⟨s1, s2, s3, s4⟩ := hSw; go_simp <;> first | omega | (simp; omega)⟩) hHeld ?_
                        try simp only [Act.put, List.setIfInBounds_toArray, List.set_cons_zero, List.set_cons_succ]
                        refine take_at (i := 12) (v := .int .i64 (pb : Nat)) 154 rfl rfl (by kernel_rfl) (by kernel_rfl) (by kernel_rfl) (fun _ _ _ h => h) (Or.inl ⟨by kernel_rfl, fun w hSw => by obtain ⟨s1, s2, s3, s4⟩ := hSw; go_simp <;> first | omega | (simp; omega)⟩) hHeld ?_
                        try simp only [Act.put, List.setIfInBounds_toArray, List.set_cons_zero, List.set_cons_succ]
                        refine take_at (i := 13) (v := .bool false) 155 rfl rfl (by kernel_rfl) (by kernel_rfl) (by kernel_rfl) (fun _ _ _ h => h) (Or.inl ⟨by kernel_rfl, fun w hSw => by obtain ⟨s1, s2, s3, s4⟩ := hSw; go_simp <;> first | omega | (simp; omega)⟩) hHeld ?_
                        try simp only [Act.put, List.setIfInBounds_toArray, List.set_cons_zero, List.set_cons_succ]
                        refine take_at (i := 14) (v := .bool false) 156 rfl rfl (by kernel_rfl) (by kernel_rfl) (by kernel_rfl) (fun _ _ _ h => h) (Or.inl ⟨by kernel_rfl, fun w hSw => by kernel_rfl⟩) hHeld ?_
                        try simp only [Act.put, List.setIfInBounds_toArray, List.set_cons_zero, List.set_cons_succ]
                        refine take_at (i := 15) (v := .slice (some ⟨bd, od, none⟩) i cd) 157 rfl rfl (by kernel_rfl) (by kernel_rfl) (by kernel_rfl) (fun _ _ _ h => h) (Or.inl ⟨by kernel_rfl, fun w hSw => by kernel_rfl⟩) hHeld ?_
                        try simp only [Act.put, List.setIfInBounds_toArray, List.set_cons_zero, List.set_cons_succ]
                        refine take_at (i := 16) (v := .int .i64 (b : Nat)) 158 rfl rfl (by kernel_rfl) (by kernel_rfl) (by kernel_rfl) (fun _ _ _ h => h) (Or.inl ⟨by kernel_rfl, fun w hSw => by kernel_rfl⟩) hHeld ?_
                        try simp only [Act.put, List.setIfInBounds_toArray, List.set_cons_zero, List.set_cons_succ]
                        refine take_at (i := 17) (v := .pointer (some ⟨bd, od + b, none⟩)) 159 rfl rfl (by kernel_rfl) (by kernel_rfl) (by kernel_rfl) (fun _ _ _ h => h) (Or.inl ⟨by kernel_rfl, fun w hSw => by obtain ⟨s1, s2, s3, s4⟩ := hSw; go_simp <;> first | omega | (simp; omega)⟩) hHeld ?_
                        try simp only [Act.put, List.setIfInBounds_toArray, List.set_cons_zero, List.set_cons_succ]
                        refine take_at (i := 18) (v := .int .i64 (db : Nat)) 160 rfl rfl (by kernel_rfl) (by kernel_rfl) (by kernel_rfl) (fun _ _ _ h => h) (Or.inl ⟨by kernel_rfl, fun w hSw => by obtain ⟨s1, s2, s3, s4⟩ := hSw; go_simp <;> first | omega | (simp; omega)⟩) hHeld ?_
                        try simp only [Act.put, List.setIfInBounds_toArray, List.set_cons_zero, List.set_cons_succ]
                        refine take_at (i := 19) (v := .slice (some ⟨bd, od, none⟩) i cd) 161 rfl rfl (by kernel_rfl) (by kernel_rfl) (by kernel_rfl) (fun _ _ _ h => h) (Or.inl ⟨by kernel_rfl, fun w hSw => by kernel_rfl⟩) hHeld ?_
                        try simp only [Act.put, List.setIfInBounds_toArray, List.set_cons_zero, List.set_cons_succ]
                        refine take_at (i := 20) (v := .int .i64 (a : Nat)) 162 rfl rfl (by kernel_rfl) (by kernel_rfl) (by kernel_rfl) (fun _ _ _ h => h) (Or.inl ⟨by kernel_rfl, fun w hSw => by kernel_rfl⟩) hHeld ?_
                        try simp only [Act.put, List.setIfInBounds_toArray, List.set_cons_zero, List.set_cons_succ]
                        refine take_at (i := 21) (v := .pointer (some ⟨bd, od + a, none⟩)) 163 rfl rfl (by kernel_rfl) (by kernel_rfl) (by kernel_rfl) (fun _ _ _ h => h) (Or.inl ⟨by kernel_rfl, fun w hSw => by obtain ⟨s1, s2, s3, s4⟩ := hSw; go_simp <;> first | omega | (simp; omega)⟩) hHeld ?_
                        try simp only [Act.put, List.setIfInBounds_toArray, List.set_cons_zero, List.set_cons_succ]
                        refine take_at (i := 22) (v := .int .i64 (da : Nat)) 164 rfl rfl (by kernel_rfl) (by kernel_rfl) (by kernel_rfl) (fun _ _ _ h => h) (Or.inl ⟨by kernel_rfl, fun w hSw => by obtain ⟨s1, s2, s3, s4⟩ := hSw; go_simp <;> first | omega | (simp; omega)⟩) hHeld ?_
                        try simp only [Act.put, List.setIfInBounds_toArray, List.set_cons_zero, List.set_cons_succ]
                        refine take_at (i := 23) (v := .int .i64 ((da : Int) + 1)) 165 rfl rfl (by kernel_rfl) (by kernel_rfl) (by kernel_rfl) (fun _ _ _ h => h) (Or.inl ⟨by kernel_rfl, fun w hSw => by obtain ⟨s1, s2, s3, s4⟩ := hSw; go_simp <;> first | omega | (simp; omega)⟩) hHeld ?_
                        try simp only [Act.put, List.setIfInBounds_toArray, List.set_cons_zero, List.set_cons_succ]
                        refine take_at (i := 24) (v := .bool false) 166 rfl rfl (by kernel_rfl) (by kernel_rfl) (by kernel_rfl) (fun _ _ _ h => h) (Or.inl ⟨by kernel_rfl, fun w hSw => by obtain ⟨s1, s2, s3, s4⟩ := hSw; go_simp <;> first | omega | (simp; omega)⟩) hHeld ?_
                        try simp only [Act.put, List.setIfInBounds_toArray, List.set_cons_zero, List.set_cons_succ]
                        refine take_at (i := 25) (v := .bool false) 167 rfl rfl (by kernel_rfl) (by kernel_rfl) (by kernel_rfl) (fun _ _ _ h => h) (Or.inl ⟨by kernel_rfl, fun w hSw => by kernel_rfl⟩) hHeld ?_
                        try simp only [Act.put, List.setIfInBounds_toArray, List.set_cons_zero, List.set_cons_succ]
                        refine take_at (i := 26) (v := .bool false) 168 rfl rfl (by kernel_rfl) (by kernel_rfl) (by kernel_rfl) (fun _ _ _ h => h) (Or.inl ⟨by kernel_rfl, fun w hSw => by kernel_rfl⟩) hHeld ?_
                        try simp only [Act.put, List.setIfInBounds_toArray, List.set_cons_zero, List.set_cons_succ]
                        refine wpAnyH_done (by kernel_rfl) ?_ _
                        have H7 := Lib.hid h7
                        obtain ⟨_, _, _, k4⟩ := HK7.out w7 h7
                        have H2 := HH2.out w7 h7
                        clear g1 g2 g3 g4 g5 hHeld
                        clear h7
                        cases hba : (R.row x b).testBit a
                        · rw [hba] at H2
                          have HNX : Hid (FarTo x (R.row ds) a (b + 1) F) := HSK.out (fun h => by
                            rw [bf, hba] at h
                            cases h)
                          have H2 := Lib.hid H2
                          clear hba
                          go_wp2_with fail
                          refine H2.out.mono ?_
                          rintro e w8 ⟨rfl, hb8⟩
                          have HB8 := Lib.hid (H7.out.trans (hb8.mono H7.out.size))
                          clear hb8
                          go_wp2
                          go_roundw
                          case rel => exact ⟨b + 1, F, by omega, by go_num, rfl, hF64, HNX.out, HB8.out⟩
                          case measure => simp [intOf]; omega
                        · rw [hba] at H2
                          have H2 := Lib.hid H2
                          by_cases hgt : F < db + 1
                          · have HNX : Hid (FarTo x (R.row ds) a (b + 1) (db + 1)) := HHT.out hba hgt
                            have g6 : (F : Int) < (db : Int) + 1 := by omega
                            clear hba
                            go_wp2_with fail
                            refine H2.out.mono ?_
                            rintro e w8 ⟨rfl, hb8⟩
                            have h8 := H7.out.trans (hb8.mono H7.out.size)
                            have HB8 := Lib.hid h8
                            obtain ⟨_, _, _, k8⟩ := HK7.out w8 h8
                            clear hb8 h8 k4
                            go_wp2
                            go_roundw
                            case rel => exact ⟨b + 1, db + 1, by omega, by go_num, by go_num, by omega, HNX.out, HB8.out⟩
                            case measure => simp [intOf]; omega
                          · have HNX : Hid (FarTo x (R.row ds) a (b + 1) F) := HSK.out (fun _ => by omega)
                            have g6 : ¬ (F : Int) < (db : Int) + 1 := by omega
                            clear hba
                            go_wp2_with fail
                            refine H2.out.mono ?_
                            rintro e w8 ⟨rfl, hb8⟩
                            have h8 := H7.out.trans (hb8.mono H7.out.size)
                            have HB8 := Lib.hid h8
                            obtain ⟨_, _, _, k8⟩ := HK7.out w8 h8
                            clear hb8 h8 k4
                            go_wp2
                            go_roundw
                            case rel => exact ⟨b + 1, F, by omega, by go_num, rfl, hF64, HNX.out, HB8.out⟩
                            case measure => simp [intOf]; omega
                    · obtain rfl : b = i := by omega
                      have hfar := HFT.out.eq HR.out HDD.out han
                      have hple := place_le HR.out HORD.out HDD.out han
                      have ca := cell_below (HATO.out a han) HBR.out
                      have cda := cell_below (HCDO.out a han) HBR.out
                      subst hfar
                      generalize o.idxOf a = pa at *
                      generalize R.row ds a = da at *
                      have i1 : (0 : Int) ≤ (a : Int) := by omega
                      have i2 : (a : Int) < (b : Int) := by omega
                      have g1 : ¬ (pa : Int) < (da : Int) := by omega
                      have g2 : ((da : Int) != (da : Int)) = false := by simp
                      go_wp2_with fail
                      go_quiet (fail)
                      go_wp2
                      go_roundw
                      case rel => exact ⟨a + 1, by omega, by go_num, below_drewN HBR.out _⟩
                      case measure => simp [intOf]; omega
                · obtain rfl : a = i := by omega
                  go_wp2
                  go_loopw [18] (fun k wr => KAR a wo k wr) (fun k _ => a - (intOf k).toNat)
                  case atStart => exact ⟨0, Nat.zero_le _, rfl, HBR.out⟩
                  case round =>
                    clear HBR
                    obtain ⟨i, hi, rfl, hbr⟩ := hrel
                    have HBR := Lib.hid hbr
                    clear hbr
                    by_cases hin : i + 1 < a
                    · have c1 := cell_below (HCOO.out i (by omega)) HBR.out
                      have c2 := cell_below (HCOO.out (i + 1) hin) HBR.out
                      have HAS := Lib.hid (HORD.out.asc i hin)
                      have ho1 : o.getD i 0 < a := HORD.out.ins _ (getD_mem (by rw [HORD.out.len]; omega))
                      have ho2 : o.getD (i + 1) 0 < a := HORD.out.ins _ (getD_mem (by rw [HORD.out.len]; omega))
                      generalize o.getD i 0 = u at *
                      generalize o.getD (i + 1) 0 = v at *
                      have i1 : (0 : Int) ≤ (i : Int) := by omega
                      have i2 : (i : Int) < (a : Int) := by omega
                      have i3 : (0 : Int) ≤ (i : Int) + 1 := by omega
                      have i4 : (i : Int) + 1 < (a : Int) := by omega
                      have i5 : ((i : Int) + 1).toNat = i + 1 := by omega
                      have i6 : IntKind.i64.wrap ((i : Int) + 1) = (i : Int) + 1 := by rw [IntKind.wrap_i64]; omega
                      by_cases huv : v < u
                      · have g1 : (v : Int) < (u : Int) := by omega
                        have hxr := HXO.out.below HBR.out
                        have hTr : Tb wr := hTb.below (HBO.out.trans (HBR.out.mono HBO.out.size))
                        have H1 := hasR_any ax a cx (u : Nat) (v : Nat) x (wr.drewN 1) (hxr.drewN 1) (hTr.drewN 1)
                        rw [has_rel HR.out u v ho1, HAS.out huv] at H1
                        have H1 := Lib.hid H1
                        clear hxr hTr
                        go_wp2_with fail
                        have HK0 : Hid (wr.cell? ⟨bo, oo + i, none⟩ = some (.int .i64 (u : Nat)) ∧ wr.cell? ⟨bo, oo + (i + 1), none⟩ = some (.int .i64 (v : Nat))) := ⟨c1, c2⟩
                        have HK7 : Hid (∀ w7, Below wr.heap.size wr w7 → w7.cell? ⟨bo, oo + i, none⟩ = some (.int .i64 (u : Nat)) ∧ w7.cell? ⟨bo, oo + (i + 1), none⟩ = some (.int .i64 (v : Nat))) := fun w7 h7 => ⟨cell_below c1 h7, cell_below c2 h7⟩
                        go_region_held3 (fun w' => w'.cell? ⟨bo, oo + i, none⟩ = some (.int .i64 (u : Nat)) ∧ w'.cell? ⟨bo, oo + (i + 1), none⟩ = some (.int .i64 (v : Nat)))
                          (first
                            | exact HK0.out
                            | assumption
                            | go_keep)
                          (first
                            | (go_at_call 35; refine H1.out.mono ?_; rintro e w7 ⟨rfl, hb7⟩; have hb7' := (below_drewN (Below.refl _ _) 1).trans hb7; have h7 : Below wo.heap.size wo w7 := HBR.out.trans (hb7'.mono HBR.out.size); have hS7 := HK7.out w7 hb7'; clear hb7 hb7'))
                        all_goals
                          have H7 := Lib.hid h7
                          clear h7
                          go_wp2
                          go_roundw
                          case rel => exact ⟨i + 1, by omega, by go_num, H7.out⟩
                          case measure => simp [intOf]; omega
                      · have g1 : ¬ (v : Int) < (u : Int) := by omega
                        go_wp2_with fail
                        go_quiet (fail)
                        go_wp2
                        go_roundw
                        case rel => exact ⟨i + 1, by omega, by go_num, below_drewN HBR.out _⟩
                        case measure => simp [intOf]; omega
                    · go_wp2
                      go_ret
                      exact ⟨rfl, HBO.out.trans (HBR.out.mono HBO.out.size)⟩
    · have hno : ∀ i, ¬ bf x i i := fun i h => absurd (HDN.out hdw i i h) (by omega)
      have HNO := Lib.hid hno
      clear hdw hno
      go_wp2_with fail
      refine HAC.out.mono ?_
      rintro e w5 ⟨rfl, hb⟩
      go_wp2_with fail
      refine (hasLoop_no ax n cx x _ (HX.out.below hb) (by omega) HNO.out).mono ?_
      rintro e w' ⟨rfl, rfl⟩
      go_wp2
      replace hB := hB.trans (hb.mono hB.size)
      have HX5 := Lib.hid (HX.out.below hb)
      have HCO5 : Hid (∀ i, i < n → w5.cell? ⟨bo, oo + i, none⟩ = some (.int .i64 ((o.getD i 0 : Nat) : Int))) := fun i hi => cell_below (HCO.out i hi) hb
      have HCD5 : Hid (∀ i, i < n → w5.cell? ⟨bd, od + i, none⟩ = some (.int .i64 ((R.row ds i : Nat) : Int))) := fun i hi => cell_below (HCD.out i hi) hb
      have HSTART : Hid (KMinR n w5 (.int .i64 0) (w5.alloc (.cells (madeCells #[Value.int .i64 0] n) 3))) := show KMinR n w5 (.int .i64 0) (w5.alloc (.cells (madeCells #[Value.int .i64 0] n) 3)) from
        ⟨0, Nat.zero_le _, rfl, by
          have e : itab n (minus 0) = itab n fun _ => 0 := itab_congr fun v _ => by simp [minus]
          rw [e, ← made_itab]
          exact Blk.new _ _ _, (Below.refl _ _).alloc (Nat.le_refl _) _⟩
      clear hb hmk
      go_loopw [13] (fun k wr => KMinR n w5 k wr) (fun k _ => n - (intOf k).toNat)
      case atStart => exact HSTART.out
      case round =>
        obtain ⟨j, hj, rfl, hA, hbr⟩ := hrel
        by_cases hjn : j < n
        · have cj : wr.cell? ⟨w5.heap.size, j, none⟩ = some (.int .i64 (minus j j)) := by rw [hA.cell, itab_at _ _ _ hjn]
          have fj := hA.free j
          have hst := hA.set j (.int .i64 (-1))
          rw [zcells_set, minus_next] at hst
          have HST := Lib.hid hst
          have HBR := Lib.hid (hbr.setCell (p := ⟨w5.heap.size, j, none⟩) (Nat.le_refl _) (.int .i64 (-1)))
          have i1 : (0 : Int) ≤ (j : Int) := by omega
          have i2 : (j : Int) < (n : Int) := by omega
          clear hst hA hbr
          go_wp2
          go_roundw
          case rel => exact ⟨j + 1, by omega, by go_num, HST.out, HBR.out⟩
          case measure => simp [intOf]; omega
        · obtain rfl : j = n := by omega
          rw [placed_none j o] at hA
          have HA1 := Lib.hid hA
          have HB1 := Lib.hid hbr
          clear hA hbr
          go_wp2
          go_loopw [14] (fun k wr => KPlcR j o w5 k wr) (fun k _ => j - (intOf k).toNat)
          case atStart => exact ⟨0, Nat.zero_le _, rfl, HA1.out, HB1.out⟩
          case round =>
            obtain ⟨i, hi, rfl, hA, hbr⟩ := hrel
            by_cases hin : i < j
            · have coi := cell_below (HCO5.out i hin) hbr
              have hoin : o.getD i 0 < j := HORD.out.ins _ (getD_mem (by rw [HORD.out.len]; exact hin))
              have cat : wr.cell? ⟨w5.heap.size, o.getD i 0, none⟩ = some (.int .i64 (-1)) := by
                rw [hA.cell, itab_at _ _ _ hoin]
                unfold placed
                rw [idx_of HORD.out hin, if_neg (by omega)]
              have fat := hA.free (o.getD i 0)
              have hst := hA.set (o.getD i 0) (.int .i64 (i : Nat))
              rw [zcells_set, placed_next HORD.out hin] at hst
              have HST := Lib.hid hst
              have HBR := Lib.hid (hbr.setCell (p := ⟨w5.heap.size, o.getD i 0, none⟩) (Nat.le_refl _) (.int .i64 (i : Nat)))
              clear hst hA hbr
              generalize o.getD i 0 = v at *
              have i1 : (0 : Int) ≤ (i : Int) := by omega
              have i2 : (i : Int) < (j : Int) := by omega
              have i3 : (0 : Int) ≤ (v : Int) := by omega
              have i4 : (v : Int) < (j : Int) := by omega
              have i5 : ¬ (v : Int) < 0 := by omega
              have i6 : ¬ (j : Int) ≤ (v : Int) := by omega
              go_wp2
              go_roundw
              case rel => exact ⟨i + 1, by omega, by go_num, HST.out, HBR.out⟩
              case measure => simp [intOf]; omega
            · obtain rfl : i = j := by omega
              rw [placed_all HORD.out] at hA
              obtain ⟨wo, hwo⟩ : ∃ wo, wo = wr := ⟨_, rfl⟩
              subst hwo
              have HXO := Lib.hid (HX5.out.below hbr)
              have HCOO : Hid (∀ k, k < i → wo.cell? ⟨bo, oo + k, none⟩ = some (.int .i64 ((o.getD k 0 : Nat) : Int))) := fun k hk => cell_below (HCO5.out k hk) hbr
              have HCDO : Hid (∀ k, k < i → wo.cell? ⟨bd, od + k, none⟩ = some (.int .i64 ((R.row ds k : Nat) : Int))) := fun k hk => cell_below (HCD5.out k hk) hbr
              have HATO : Hid (∀ k, k < i → wo.cell? ⟨w5.heap.size, k, none⟩ = some (.int .i64 ((o.idxOf k : Nat) : Int))) := fun k hk => by rw [hA.cell, itab_at _ _ _ hk]
              have HBO := Lib.hid (hB.trans (hbr.mono hB.size))
              have hgat : w5.heap.size < wo.heap.size := hA.lt
              clear hA hbr hB
              generalize w5.heap.size = ga at *
              go_wp2
              go_loopw [15] (fun k wr => KAR i wo k wr) (fun k _ => i - (intOf k).toNat)
              case atStart => exact ⟨0, Nat.zero_le _, rfl, Below.refl _ _⟩
              case round =>
                obtain ⟨a, ha, rfl, hbr⟩ := hrel
                have HBR := Lib.hid hbr
                clear hbr
                by_cases han : a < i
                · go_wp2
                  go_loopw [16, 17] (fun f k wr => KBR i x (R.row ds) a wo f k wr) (fun _ k _ => i - (intOf k).toNat)
                  case atStart => exact ⟨0, 0, Nat.zero_le _, rfl, rfl, by omega, FarTo.start _ _ _, HBR.out⟩
                  case round =>
                    clear HBR
                    obtain ⟨b, F, hb, rfl, rfl, hF64, hF, hbr⟩ := hrel
                    have HFT := Lib.hid hF
                    have HBR := Lib.hid hbr
                    clear hF hbr
                    by_cases hbn : b < i
                    · have hxr := HXO.out.below HBR.out
                      have hTr : Tb wr := hTb.below (HBO.out.trans (HBR.out.mono HBO.out.size))
                      have H1 := hasR_any ax i cx (a : Nat) (b : Nat) x (wr.drewN 1) (hxr.drewN 1) (hTr.drewN 1)
                      rw [has_rel HR.out a b han] at H1
                      have HH2 : Hid (∀ w7, Below wo.heap.size wo w7 → Calls Tryd.prog 35 #[.slice ax i cx, .int .i64 (b : Nat), .int .i64 (a : Nat)] w7 (Ans (.bool ((R.row x b).testBit a)) w7)) := fun w7 h7 => by
                        have := hasR_any ax i cx (b : Nat) (a : Nat) x w7 (HXO.out.below h7) (hTb.below (HBO.out.trans (h7.mono HBO.out.size)))
                        rwa [has_rel HR.out b a hbn] at this
                      have hd64a := HD64.out a han
                      have hd64b := HD64.out b hbn
                      have HQ : Hid (bf x a b → o.idxOf a < o.idxOf b ∧ R.row ds a + 1 ≤ R.row ds b) := fun h => ⟨place_lt HR.out HORD.out h, HDD.out.1 a b h⟩
                      have HK7 : Hid (∀ w7, Below wo.heap.size wo w7 → w7.cell? ⟨ga, a, none⟩ = some (.int .i64 ((o.idxOf a : Nat) : Int)) ∧ w7.cell? ⟨ga, b, none⟩ = some (.int .i64 ((o.idxOf b : Nat) : Int)) ∧ w7.cell? ⟨bd, od + a, none⟩ = some (.int .i64 ((R.row ds a : Nat) : Int)) ∧ w7.cell? ⟨bd, od + b, none⟩ = some (.int .i64 ((R.row ds b : Nat) : Int))) := fun w7 h7 => ⟨cell_below (HATO.out a han) h7, cell_below (HATO.out b hbn) h7, cell_below (HCDO.out a han) h7, cell_below (HCDO.out b hbn) h7⟩
                      have HK0 := Lib.hid (HK7.out wr HBR.out)
                      have HSK := Lib.hid (fun h => HFT.out.skip (b := b) h)
                      have HHT := Lib.hid (fun h1 h2 => HFT.out.hit (b := b) h1 h2)
                      clear hxr hTr
                      generalize hpa : o.idxOf a = pa at *
                      generalize hpb : o.idxOf b = pb at *
                      generalize hda : R.row ds a = da at *
                      generalize hdb : R.row ds b = db at *
                      have i1 : (0 : Int) ≤ (a : Int) := by omega
                      have i2 : (a : Int) < (i : Int) := by omega
                      have i3 : (0 : Int) ≤ (b : Int) := by omega
                      have i4 : (b : Int) < (i : Int) := by omega
                      clear hpa hpb hda hdb
                      cases hab : (R.row x a).testBit b
                      · rw [hab] at H1
                        have H1 := Lib.hid H1
                        clear hab
                        go_wp2_with fail
                        refine wp_region_held_drew (S := fun _ => True) (by kernel_rfl) trivial (fun hHeld => ?_)
                        refine take_at (i := 0) (v := .slice ax i cx) 142 rfl rfl (by kernel_rfl) (by kernel_rfl) (by kernel_rfl) (fun _ _ _ h => h) (Or.inl ⟨by kernel_rfl, fun w hSw => by kernel_rfl⟩) hHeld ?_
                        try simp only [Act.put, List.setIfInBounds_toArray, List.set_cons_zero, List.set_cons_succ]
                        refine take_at (i := 1) (v := .int .i64 (a : Nat)) 143 rfl rfl (by kernel_rfl) (by kernel_rfl) (by kernel_rfl) (fun _ _ _ h => h) (Or.inl ⟨by kernel_rfl, fun w hSw => by kernel_rfl⟩) hHeld ?_
                        try simp only [Act.put, List.setIfInBounds_toArray, List.set_cons_zero, List.set_cons_succ]
                        refine take_at (i := 2) (v := .int .i64 (b : Nat)) 144 rfl rfl (by kernel_rfl) (by kernel_rfl) (by kernel_rfl) (fun _ _ _ h => h) (Or.inl ⟨by kernel_rfl, fun w hSw => by kernel_rfl⟩) hHeld ?_
                        try simp only [Act.put, List.setIfInBounds_toArray, List.set_cons_zero, List.set_cons_succ]
                        refine wpAnyH_ready (rs := [3]) (by kernel_rfl) (by simp) ?_
                        refine AllReadyH.cons (o := _) rfl (fun K hK => ?_) AllReadyH.nil
                        go_simp
                        refine H1.out.mono ?_
                        rintro e w7 ⟨rfl, hb7⟩
                        have h7 : Below wo.heap.size wo w7 := HBR.out.trans (((below_drewN (Below.refl _ _) 1).trans hb7).mono HBR.out.size)
                        clear hb7
                        clear hHeld
                        refine hK.out _ _ trivial (fun hHeld => ?_)
                        clear hK K
                        try simp only [Act.put, List.setIfInBounds_toArray, List.set_cons_zero, List.set_cons_succ]
                        refine take_at (i := 4) (v := .bool false) 146 rfl rfl (by kernel_rfl) (by kernel_rfl) (by kernel_rfl) (fun _ _ _ h => h) (Or.inl ⟨by kernel_rfl, fun w hSw => by kernel_rfl⟩) hHeld ?_
                        try simp only [Act.put, List.setIfInBounds_toArray, List.set_cons_zero, List.set_cons_succ]
                        refine take_at (i := 5) (v := undef) 147 rfl rfl (by kernel_rfl) (by kernel_rfl) (by kernel_rfl) (fun _ _ _ h => h) (Or.inr ⟨by kernel_rfl, rfl⟩) hHeld ?_
                        try simp only [Act.put, List.setIfInBounds_toArray, List.set_cons_zero, List.set_cons_succ]
                        refine take_at (i := 6) (v := undef) 148 rfl rfl (by kernel_rfl) (by kernel_rfl) (by kernel_rfl) (fun _ _ _ h => h) (Or.inr ⟨by kernel_rfl, rfl⟩) hHeld ?_
                        try simp only [Act.put, List.setIfInBounds_toArray, List.set_cons_zero, List.set_cons_succ]
                        refine take_at (i := 7) (v := undef) 149 rfl rfl (by kernel_rfl) (by kernel_rfl) (by kernel_rfl) (fun _ _ _ h => h) (Or.inr ⟨by kernel_rfl, rfl⟩) hHeld ?_
                        try simp only [Act.put, List.setIfInBounds_toArray, List.set_cons_zero, List.set_cons_succ]
                        refine take_at (i := 8) (v := undef) 150 rfl rfl (by kernel_rfl) (by kernel_rfl) (by kernel_rfl) (fun _ _ _ h => h) (Or.inr ⟨by kernel_rfl, rfl⟩) hHeld ?_
                        try simp only [Act.put, List.setIfInBounds_toArray, List.set_cons_zero, List.set_cons_succ]
                        refine take_at (i := 9) (v := undef) 151 rfl rfl (by kernel_rfl) (by kernel_rfl) (by kernel_rfl) (fun _ _ _ h => h) (Or.inr ⟨by kernel_rfl, rfl⟩) hHeld ?_
                        try simp only [Act.put, List.setIfInBounds_toArray, List.set_cons_zero, List.set_cons_succ]
                        refine take_at (i := 10) (v := undef) 152 rfl rfl (by kernel_rfl) (by kernel_rfl) (by kernel_rfl) (fun _ _ _ h => h) (Or.inr ⟨by kernel_rfl, rfl⟩) hHeld ?_
                        try simp only [Act.put, List.setIfInBounds_toArray, List.set_cons_zero, List.set_cons_succ]
                        refine take_at (i := 11) (v := undef) 153 rfl rfl (by kernel_rfl) (by kernel_rfl) (by kernel_rfl) (fun _ _ _ h => h) (Or.inr ⟨by kernel_rfl, rfl⟩) hHeld ?_
                        try simp only [Act.put, List.setIfInBounds_toArray, List.set_cons_zero, List.set_cons_succ]
                        refine take_at (i := 12) (v := undef) 154 rfl rfl (by kernel_rfl) (by kernel_rfl) (by kernel_rfl) (fun _ _ _ h => h) (Or.inr ⟨by kernel_rfl, rfl⟩) hHeld ?_
                        try simp only [Act.put, List.setIfInBounds_toArray, List.set_cons_zero, List.set_cons_succ]
                        refine take_at (i := 13) (v := undef) 155 rfl rfl (by kernel_rfl) (by kernel_rfl) (by kernel_rfl) (fun _ _ _ h => h) (Or.inr ⟨by kernel_rfl, rfl⟩) hHeld ?_
                        try simp only [Act.put, List.setIfInBounds_toArray, List.set_cons_zero, List.set_cons_succ]
                        refine take_at (i := 14) (v := undef) 156 rfl rfl (by kernel_rfl) (by kernel_rfl) (by kernel_rfl) (fun _ _ _ h => h) (Or.inr ⟨by kernel_rfl, rfl⟩) hHeld ?_
                        try simp only [Act.put, List.setIfInBounds_toArray, List.set_cons_zero, List.set_cons_succ]
                        refine take_at (i := 15) (v := undef) 157 rfl rfl (by kernel_rfl) (by kernel_rfl) (by kernel_rfl) (fun _ _ _ h => h) (Or.inr ⟨by kernel_rfl, rfl⟩) hHeld ?_
                        try simp only [Act.put, List.setIfInBounds_toArray, List.set_cons_zero, List.set_cons_succ]
                        refine take_at (i := 16) (v := undef) 158 rfl rfl (by kernel_rfl) (by kernel_rfl) (by kernel_rfl) (fun _ _ _ h => h) (Or.inr ⟨by kernel_rfl, rfl⟩) hHeld ?_
                        try simp only [Act.put, List.setIfInBounds_toArray, List.set_cons_zero, List.set_cons_succ]
                        refine take_at (i := 17) (v := undef) 159 rfl rfl (by kernel_rfl) (by kernel_rfl) (by kernel_rfl) (fun _ _ _ h => h) (Or.inr ⟨by kernel_rfl, rfl⟩) hHeld ?_
                        try simp only [Act.put, List.setIfInBounds_toArray, List.set_cons_zero, List.set_cons_succ]
                        refine take_at (i := 18) (v := undef) 160 rfl rfl (by kernel_rfl) (by kernel_rfl) (by kernel_rfl) (fun _ _ _ h => h) (Or.inr ⟨by kernel_rfl, rfl⟩) hHeld ?_
                        try simp only [Act.put, List.setIfInBounds_toArray, List.set_cons_zero, List.set_cons_succ]
                        refine take_at (i := 19) (v := undef) 161 rfl rfl (by kernel_rfl) (by kernel_rfl) (by kernel_rfl) (fun _ _ _ h => h) (Or.inr ⟨by kernel_rfl, rfl⟩) hHeld ?_
                        try simp only [Act.put, List.setIfInBounds_toArray, List.set_cons_zero, List.set_cons_succ]
                        refine take_at (i := 20) (v := undef) 162 rfl rfl (by kernel_rfl) (by kernel_rfl) (by kernel_rfl) (fun _ _ _ h => h) (Or.inr ⟨by kernel_rfl, rfl⟩) hHeld ?_
                        try simp only [Act.put, List.setIfInBounds_toArray, List.set_cons_zero, List.set_cons_succ]
                        refine take_at (i := 21) (v := undef) 163 rfl rfl (by kernel_rfl) (by kernel_rfl) (by kernel_rfl) (fun _ _ _ h => h) (Or.inr ⟨by kernel_rfl, rfl⟩) hHeld ?_
                        try simp only [Act.put, List.setIfInBounds_toArray, List.set_cons_zero, List.set_cons_succ]
                        refine take_at (i := 22) (v := undef) 164 rfl rfl (by kernel_rfl) (by kernel_rfl) (by kernel_rfl) (fun _ _ _ h => h) (Or.inr ⟨by kernel_rfl, rfl⟩) hHeld ?_
                        try simp only [Act.put, List.setIfInBounds_toArray, List.set_cons_zero, List.set_cons_succ]
                        refine take_at (i := 23) (v := undef) 165 rfl rfl (by kernel_rfl) (by kernel_rfl) (by kernel_rfl) (fun _ _ _ h => h) (Or.inr ⟨by kernel_rfl, rfl⟩) hHeld ?_
                        try simp only [Act.put, List.setIfInBounds_toArray, List.set_cons_zero, List.set_cons_succ]
                        refine take_at (i := 24) (v := undef) 166 rfl rfl (by kernel_rfl) (by kernel_rfl) (by kernel_rfl) (fun _ _ _ h => h) (Or.inr ⟨by kernel_rfl, rfl⟩) hHeld ?_
                        try simp only [Act.put, List.setIfInBounds_toArray, List.set_cons_zero, List.set_cons_succ]
                        refine take_at (i := 25) (v := undef) 167 rfl rfl (by kernel_rfl) (by kernel_rfl) (by kernel_rfl) (fun _ _ _ h => h) (Or.inr ⟨by kernel_rfl, rfl⟩) hHeld ?_
                        try simp only [Act.put, List.setIfInBounds_toArray, List.set_cons_zero, List.set_cons_succ]
                        refine take_at (i := 26) (v := .bool false) 168 rfl rfl (by kernel_rfl) (by kernel_rfl) (by kernel_rfl) (fun _ _ _ h => h) (Or.inl ⟨by kernel_rfl, fun w hSw => by kernel_rfl⟩) hHeld ?_
                        try simp only [Act.put, List.setIfInBounds_toArray, List.set_cons_zero, List.set_cons_succ]
                        refine wpAnyH_done (by kernel_rfl) ?_ _
                        have H7 := Lib.hid h7
                        obtain ⟨_, _, _, k4⟩ := HK7.out w7 h7
                        have H2 := HH2.out w7 h7
                        clear hHeld
                        clear h7
                        cases hba : (R.row x b).testBit a
                        · rw [hba] at H2
                          have HNX : Hid (FarTo x (R.row ds) a (b + 1) F) := HSK.out (fun h => by
                            rw [bf, hba] at h
                            cases h)
                          have H2 := Lib.hid H2
                          clear hba
                          go_wp2_with fail
                          refine H2.out.mono ?_
                          rintro e w8 ⟨rfl, hb8⟩
                          have HB8 := Lib.hid (H7.out.trans (hb8.mono H7.out.size))
                          clear hb8
                          go_wp2
                          go_roundw
                          case rel => exact ⟨b + 1, F, by omega, by go_num, rfl, hF64, HNX.out, HB8.out⟩
                          case measure => simp [intOf]; omega
                        · rw [hba] at H2
                          have H2 := Lib.hid H2
                          by_cases hgt : F < db + 1
                          · have HNX : Hid (FarTo x (R.row ds) a (b + 1) (db + 1)) := HHT.out hba hgt
                            have g6 : (F : Int) < (db : Int) + 1 := by omega
                            clear hba
                            go_wp2_with fail
                            refine H2.out.mono ?_
                            rintro e w8 ⟨rfl, hb8⟩
                            have h8 := H7.out.trans (hb8.mono H7.out.size)
                            have HB8 := Lib.hid h8
                            obtain ⟨_, _, _, k8⟩ := HK7.out w8 h8
                            clear hb8 h8 k4
                            go_wp2
                            go_roundw
                            case rel => exact ⟨b + 1, db + 1, by omega, by go_num, by go_num, by omega, HNX.out, HB8.out⟩
                            case measure => simp [intOf]; omega
                          · have HNX : Hid (FarTo x (R.row ds) a (b + 1) F) := HSK.out (fun _ => by omega)
                            have g6 : ¬ (F : Int) < (db : Int) + 1 := by omega
                            clear hba
                            go_wp2_with fail
                            refine H2.out.mono ?_
                            rintro e w8 ⟨rfl, hb8⟩
                            have h8 := H7.out.trans (hb8.mono H7.out.size)
                            have HB8 := Lib.hid h8
                            obtain ⟨_, _, _, k8⟩ := HK7.out w8 h8
                            clear hb8 h8 k4
                            go_wp2
                            go_roundw
                            case rel => exact ⟨b + 1, F, by omega, by go_num, rfl, hF64, HNX.out, HB8.out⟩
                            case measure => simp [intOf]; omega
                      · rw [hab] at H1
                        have H1 := Lib.hid H1
                        obtain ⟨g1, g2⟩ := HQ.out hab
                        have g3 : ¬ (pb : Int) ≤ (pa : Int) := by omega
                        have g4 : ¬ (db : Int) < (da : Int) + 1 := by omega
                        have g5 : IntKind.i64.wrap ((da : Int) + 1) = (da : Int) + 1 := by rw [IntKind.wrap_i64]; omega
                        clear hab
                        go_wp2_with fail
                        refine wp_region_held_drew (S := fun w' => w'.cell? ⟨ga, a, none⟩ = some (.int .i64 (pa : Nat)) ∧ w'.cell? ⟨ga, b, none⟩ = some (.int .i64 (pb : Nat)) ∧ w'.cell? ⟨bd, od + a, none⟩ = some (.int .i64 (da : Nat)) ∧ w'.cell? ⟨bd, od + b, none⟩ = some (.int .i64 (db : Nat))) (by kernel_rfl) HK0.out (fun hHeld => ?_)
                        refine take_at (i := 0) (v := .slice ax i cx) 142 rfl rfl (by kernel_rfl) (by kernel_rfl) (by kernel_rfl) (fun _ _ _ h => h) (Or.inl ⟨by kernel_rfl, fun w hSw => by kernel_rfl⟩) hHeld ?_
                        try simp only [Act.put, List.setIfInBounds_toArray, List.set_cons_zero, List.set_cons_succ]
                        refine take_at (i := 1) (v := .int .i64 (a : Nat)) 143 rfl rfl (by kernel_rfl) (by kernel_rfl) (by kernel_rfl) (fun _ _ _ h => h) (Or.inl ⟨by kernel_rfl, fun w hSw => by kernel_rfl⟩) hHeld ?_
                        try simp only [Act.put, List.setIfInBounds_toArray, List.set_cons_zero, List.set_cons_succ]
                        refine take_at (i := 2) (v := .int .i64 (b : Nat)) 144 rfl rfl (by kernel_rfl) (by kernel_rfl) (by kernel_rfl) (fun _ _ _ h => h) (Or.inl ⟨by kernel_rfl, fun w hSw => by kernel_rfl⟩) hHeld ?_
                        try simp only [Act.put, List.setIfInBounds_toArray, List.set_cons_zero, List.set_cons_succ]
                        refine wpAnyH_ready (rs := [3]) (by kernel_rfl) (by simp) ?_
                        refine AllReadyH.cons (o := _) rfl (fun K hK => ?_) AllReadyH.nil
                        go_simp
                        refine H1.out.mono ?_
                        rintro e w7 ⟨rfl, hb7⟩
                        have h7 : Below wo.heap.size wo w7 := HBR.out.trans (((below_drewN (Below.refl _ _) 1).trans hb7).mono HBR.out.size)
                        clear hb7
                        clear hHeld
                        refine hK.out _ _ (HK7.out w7 h7) (fun hHeld => ?_)
                        clear hK K
                        try simp only [Act.put, List.setIfInBounds_toArray, List.set_cons_zero, List.set_cons_succ]
                        refine take_at (i := 4) (v := .bool true) 146 rfl rfl (by kernel_rfl) (by kernel_rfl) (by kernel_rfl) (fun _ _ _ h => h) (Or.inl ⟨by kernel_rfl, fun w hSw => by kernel_rfl⟩) hHeld ?_
                        try simp only [Act.put, List.setIfInBounds_toArray, List.set_cons_zero, List.set_cons_succ]
                        refine take_at (i := 5) (v := .slice (some ⟨ga, 0, none⟩) i i) 147 rfl rfl (by kernel_rfl) (by kernel_rfl) (by kernel_rfl) (fun _ _ _ h => h) (Or.inl ⟨by kernel_rfl, fun w hSw => by kernel_rfl⟩) hHeld ?_
                        try simp only [Act.put, List.setIfInBounds_toArray, List.set_cons_zero, List.set_cons_succ]
                        refine take_at (i := 6) (v := .int .i64 (a : Nat)) 148 rfl rfl (by kernel_rfl) (by kernel_rfl) (by kernel_rfl) (fun _ _ _ h => h) (Or.inl ⟨by kernel_rfl, fun w hSw => by kernel_rfl⟩) hHeld ?_
                        try simp only [Act.put, List.setIfInBounds_toArray, List.set_cons_zero, List.set_cons_succ]
                        refine take_at (i := 7) (v := .pointer (some ⟨ga, a, none⟩)) 149 rfl rfl (by kernel_rfl) (by kernel_rfl) (by kernel_rfl) (fun _ _ _ h => h) (Or.inl ⟨by kernel_rfl, fun w hSw => by obtain ⟨s1, s2, s3, s4⟩ := hSw; go_simp <;> first | omega | (simp; omega)⟩) hHeld ?_
                        try simp only [Act.put, List.setIfInBounds_toArray, List.set_cons_zero, List.set_cons_succ]
                        refine take_at (i := 8) (v := .int .i64 (pa : Nat)) 150 rfl rfl (by kernel_rfl) (by kernel_rfl) (by kernel_rfl) (fun _ _ _ h => h) (Or.inl ⟨by kernel_rfl, fun w hSw => by obtain ⟨s1, s2, s3, s4⟩ := hSw; go_simp <;> first | omega | (simp; omega)⟩) hHeld ?_
                        try simp only [Act.put, List.setIfInBounds_toArray, List.set_cons_zero, List.set_cons_succ]
                        refine take_at (i := 9) (v := .slice (some ⟨ga, 0, none⟩) i i) 151 rfl rfl (by kernel_rfl) (by kernel_rfl) (by kernel_rfl) (fun _ _ _ h => h) (Or.inl ⟨by kernel_rfl, fun w hSw => by kernel_rfl⟩) hHeld ?_
                        try simp only [Act.put, List.setIfInBounds_toArray, List.set_cons_zero, List.set_cons_succ]
                        refine take_at (i := 10) (v := .int .i64 (b : Nat)) 152 rfl rfl (by kernel_rfl) (by kernel_rfl) (by kernel_rfl) (fun _ _ _ h => h) (Or.inl ⟨by kernel_rfl, fun w hSw => by kernel_rfl⟩) hHeld ?_
                        try simp only [Act.put, List.setIfInBounds_toArray, List.set_cons_zero, List.set_cons_succ]
                        refine take_at (i := 11) (v := .pointer (some ⟨ga, b, none⟩)) 153 rfl rfl (by kernel_rfl) (by kernel_rfl) (by kernel_rfl) (fun _ _ _ h => h) (Or.inl ⟨by kernel_rfl, fun w hSw => by obtain ⟨s1, s2, s3, s4⟩ := hSw; go_simp <;> first | omega | (simp; omega)⟩) hHeld ?_
                        try simp only [Act.put, List.setIfInBounds_toArray, List.set_cons_zero, List.set_cons_succ]
                        refine take_at (i := 12) (v := .int .i64 (pb : Nat)) 154 rfl rfl (by kernel_rfl) (by kernel_rfl) (by kernel_rfl) (fun _ _ _ h => h) (Or.inl ⟨by kernel_rfl, fun w hSw => by obtain ⟨s1, s2, s3, s4⟩ := hSw; go_simp <;> first | omega | (simp; omega)⟩) hHeld ?_
                        try simp only [Act.put, List.setIfInBounds_toArray, List.set_cons_zero, List.set_cons_succ]
                        refine take_at (i := 13) (v := .bool false) 155 rfl rfl (by kernel_rfl) (by kernel_rfl) (by kernel_rfl) (fun _ _ _ h => h) (Or.inl ⟨by kernel_rfl, fun w hSw => by obtain ⟨s1, s2, s3, s4⟩ := hSw; go_simp <;> first | omega | (simp; omega)⟩) hHeld ?_
                        try simp only [Act.put, List.setIfInBounds_toArray, List.set_cons_zero, List.set_cons_succ]
                        refine take_at (i := 14) (v := .bool false) 156 rfl rfl (by kernel_rfl) (by kernel_rfl) (by kernel_rfl) (fun _ _ _ h => h) (Or.inl ⟨by kernel_rfl, fun w hSw => by kernel_rfl⟩) hHeld ?_
                        try simp only [Act.put, List.setIfInBounds_toArray, List.set_cons_zero, List.set_cons_succ]
                        refine take_at (i := 15) (v := .slice (some ⟨bd, od, none⟩) i cd) 157 rfl rfl (by kernel_rfl) (by kernel_rfl) (by kernel_rfl) (fun _ _ _ h => h) (Or.inl ⟨by kernel_rfl, fun w hSw => by kernel_rfl⟩) hHeld ?_
                        try simp only [Act.put, List.setIfInBounds_toArray, List.set_cons_zero, List.set_cons_succ]
                        refine take_at (i := 16) (v := .int .i64 (b : Nat)) 158 rfl rfl (by kernel_rfl) (by kernel_rfl) (by kernel_rfl) (fun _ _ _ h => h) (Or.inl ⟨by kernel_rfl, fun w hSw => by kernel_rfl⟩) hHeld ?_
                        try simp only [Act.put, List.setIfInBounds_toArray, List.set_cons_zero, List.set_cons_succ]
                        refine take_at (i := 17) (v := .pointer (some ⟨bd, od + b, none⟩)) 159 rfl rfl (by kernel_rfl) (by kernel_rfl) (by kernel_rfl) (fun _ _ _ h => h) (Or.inl ⟨by kernel_rfl, fun w hSw => by obtain ⟨s1, s2, s3, s4⟩ := hSw; go_simp <;> first | omega | (simp; omega)⟩) hHeld ?_
                        try simp only [Act.put, List.setIfInBounds_toArray, List.set_cons_zero, List.set_cons_succ]
                        refine take_at (i := 18) (v := .int .i64 (db : Nat)) 160 rfl rfl (by kernel_rfl) (by kernel_rfl) (by kernel_rfl) (fun _ _ _ h => h) (Or.inl ⟨by kernel_rfl, fun w hSw => by obtain ⟨s1, s2, s3, s4⟩ := hSw; go_simp <;> first | omega | (simp; omega)⟩) hHeld ?_
                        try simp only [Act.put, List.setIfInBounds_toArray, List.set_cons_zero, List.set_cons_succ]
                        refine take_at (i := 19) (v := .slice (some ⟨bd, od, none⟩) i cd) 161 rfl rfl (by kernel_rfl) (by kernel_rfl) (by kernel_rfl) (fun _ _ _ h => h) (Or.inl ⟨by kernel_rfl, fun w hSw => by kernel_rfl⟩) hHeld ?_
                        try simp only [Act.put, List.setIfInBounds_toArray, List.set_cons_zero, List.set_cons_succ]
                        refine take_at (i := 20) (v := .int .i64 (a : Nat)) 162 rfl rfl (by kernel_rfl) (by kernel_rfl) (by kernel_rfl) (fun _ _ _ h => h) (Or.inl ⟨by kernel_rfl, fun w hSw => by kernel_rfl⟩) hHeld ?_
                        try simp only [Act.put, List.setIfInBounds_toArray, List.set_cons_zero, List.set_cons_succ]
                        refine take_at (i := 21) (v := .pointer (some ⟨bd, od + a, none⟩)) 163 rfl rfl (by kernel_rfl) (by kernel_rfl) (by kernel_rfl) (fun _ _ _ h => h) (Or.inl ⟨by kernel_rfl, fun w hSw => by obtain ⟨s1, s2, s3, s4⟩ := hSw; go_simp <;> first | omega | (simp; omega)⟩) hHeld ?_
                        try simp only [Act.put, List.setIfInBounds_toArray, List.set_cons_zero, List.set_cons_succ]
                        refine take_at (i := 22) (v := .int .i64 (da : Nat)) 164 rfl rfl (by kernel_rfl) (by kernel_rfl) (by kernel_rfl) (fun _ _ _ h => h) (Or.inl ⟨by kernel_rfl, fun w hSw => by obtain ⟨s1, s2, s3, s4⟩ := hSw; go_simp <;> first | omega | (simp; omega)⟩) hHeld ?_
                        try simp only [Act.put, List.setIfInBounds_toArray, List.set_cons_zero, List.set_cons_succ]
                        refine take_at (i := 23) (v := .int .i64 ((da : Int) + 1)) 165 rfl rfl (by kernel_rfl) (by kernel_rfl) (by kernel_rfl) (fun _ _ _ h => h) (Or.inl ⟨by kernel_rfl, fun w hSw => by obtain ⟨s1, s2, s3, s4⟩ := hSw; go_simp <;> first | omega | (simp; omega)⟩) hHeld ?_
                        try simp only [Act.put, List.setIfInBounds_toArray, List.set_cons_zero, List.set_cons_succ]
                        refine take_at (i := 24) (v := .bool false) 166 rfl rfl (by kernel_rfl) (by kernel_rfl) (by kernel_rfl) (fun _ _ _ h => h) (Or.inl ⟨by kernel_rfl, fun w hSw => by obtain ⟨s1, s2, s3, s4⟩ := hSw; go_simp <;> first | omega | (simp; omega)⟩) hHeld ?_
                        try simp only [Act.put, List.setIfInBounds_toArray, List.set_cons_zero, List.set_cons_succ]
                        refine take_at (i := 25) (v := .bool false) 167 rfl rfl (by kernel_rfl) (by kernel_rfl) (by kernel_rfl) (fun _ _ _ h => h) (Or.inl ⟨by kernel_rfl, fun w hSw => by kernel_rfl⟩) hHeld ?_
                        try simp only [Act.put, List.setIfInBounds_toArray, List.set_cons_zero, List.set_cons_succ]
                        refine take_at (i := 26) (v := .bool false) 168 rfl rfl (by kernel_rfl) (by kernel_rfl) (by kernel_rfl) (fun _ _ _ h => h) (Or.inl ⟨by kernel_rfl, fun w hSw => by kernel_rfl⟩) hHeld ?_
                        try simp only [Act.put, List.setIfInBounds_toArray, List.set_cons_zero, List.set_cons_succ]
                        refine wpAnyH_done (by kernel_rfl) ?_ _
                        have H7 := Lib.hid h7
                        obtain ⟨_, _, _, k4⟩ := HK7.out w7 h7
                        have H2 := HH2.out w7 h7
                        clear g1 g2 g3 g4 g5 hHeld
                        clear h7
                        cases hba : (R.row x b).testBit a
                        · rw [hba] at H2
                          have HNX : Hid (FarTo x (R.row ds) a (b + 1) F) := HSK.out (fun h => by
                            rw [bf, hba] at h
                            cases h)
                          have H2 := Lib.hid H2
                          clear hba
                          go_wp2_with fail
                          refine H2.out.mono ?_
                          rintro e w8 ⟨rfl, hb8⟩
                          have HB8 := Lib.hid (H7.out.trans (hb8.mono H7.out.size))
                          clear hb8
                          go_wp2
                          go_roundw
                          case rel => exact ⟨b + 1, F, by omega, by go_num, rfl, hF64, HNX.out, HB8.out⟩
                          case measure => simp [intOf]; omega
                        · rw [hba] at H2
                          have H2 := Lib.hid H2
                          by_cases hgt : F < db + 1
                          · have HNX : Hid (FarTo x (R.row ds) a (b + 1) (db + 1)) := HHT.out hba hgt
                            have g6 : (F : Int) < (db : Int) + 1 := by omega
                            clear hba
                            go_wp2_with fail
                            refine H2.out.mono ?_
                            rintro e w8 ⟨rfl, hb8⟩
                            have h8 := H7.out.trans (hb8.mono H7.out.size)
                            have HB8 := Lib.hid h8
                            obtain ⟨_, _, _, k8⟩ := HK7.out w8 h8
                            clear hb8 h8 k4
                            go_wp2
                            go_roundw
                            case rel => exact ⟨b + 1, db + 1, by omega, by go_num, by go_num, by omega, HNX.out, HB8.out⟩
                            case measure => simp [intOf]; omega
                          · have HNX : Hid (FarTo x (R.row ds) a (b + 1) F) := HSK.out (fun _ => by omega)
                            have g6 : ¬ (F : Int) < (db : Int) + 1 := by omega
                            clear hba
                            go_wp2_with fail
                            refine H2.out.mono ?_
                            rintro e w8 ⟨rfl, hb8⟩
                            have h8 := H7.out.trans (hb8.mono H7.out.size)
                            have HB8 := Lib.hid h8
                            obtain ⟨_, _, _, k8⟩ := HK7.out w8 h8
                            clear hb8 h8 k4
                            go_wp2
                            go_roundw
                            case rel => exact ⟨b + 1, F, by omega, by go_num, rfl, hF64, HNX.out, HB8.out⟩
                            case measure => simp [intOf]; omega
                    · obtain rfl : b = i := by omega
                      have hfar := HFT.out.eq HR.out HDD.out han
                      have hple := place_le HR.out HORD.out HDD.out han
                      have ca := cell_below (HATO.out a han) HBR.out
                      have cda := cell_below (HCDO.out a han) HBR.out
                      subst hfar
                      generalize o.idxOf a = pa at *
                      generalize R.row ds a = da at *
                      have i1 : (0 : Int) ≤ (a : Int) := by omega
                      have i2 : (a : Int) < (b : Int) := by omega
                      have g1 : ¬ (pa : Int) < (da : Int) := by omega
                      have g2 : ((da : Int) != (da : Int)) = false := by simp
                      go_wp2_with fail
                      go_quiet (fail)
                      go_wp2
                      go_roundw
                      case rel => exact ⟨a + 1, by omega, by go_num, below_drewN HBR.out _⟩
                      case measure => simp [intOf]; omega
                · obtain rfl : a = i := by omega
                  go_wp2
                  go_loopw [18] (fun k wr => KAR a wo k wr) (fun k _ => a - (intOf k).toNat)
                  case atStart => exact ⟨0, Nat.zero_le _, rfl, HBR.out⟩
                  case round =>
                    clear HBR
                    obtain ⟨i, hi, rfl, hbr⟩ := hrel
                    have HBR := Lib.hid hbr
                    clear hbr
                    by_cases hin : i + 1 < a
                    · have c1 := cell_below (HCOO.out i (by omega)) HBR.out
                      have c2 := cell_below (HCOO.out (i + 1) hin) HBR.out
                      have HAS := Lib.hid (HORD.out.asc i hin)
                      have ho1 : o.getD i 0 < a := HORD.out.ins _ (getD_mem (by rw [HORD.out.len]; omega))
                      have ho2 : o.getD (i + 1) 0 < a := HORD.out.ins _ (getD_mem (by rw [HORD.out.len]; omega))
                      generalize o.getD i 0 = u at *
                      generalize o.getD (i + 1) 0 = v at *
                      have i1 : (0 : Int) ≤ (i : Int) := by omega
                      have i2 : (i : Int) < (a : Int) := by omega
                      have i3 : (0 : Int) ≤ (i : Int) + 1 := by omega
                      have i4 : (i : Int) + 1 < (a : Int) := by omega
                      have i5 : ((i : Int) + 1).toNat = i + 1 := by omega
                      have i6 : IntKind.i64.wrap ((i : Int) + 1) = (i : Int) + 1 := by rw [IntKind.wrap_i64]; omega
                      by_cases huv : v < u
                      · have g1 : (v : Int) < (u : Int) := by omega
                        have hxr := HXO.out.below HBR.out
                        have hTr : Tb wr := hTb.below (HBO.out.trans (HBR.out.mono HBO.out.size))
                        have H1 := hasR_any ax a cx (u : Nat) (v : Nat) x (wr.drewN 1) (hxr.drewN 1) (hTr.drewN 1)
                        rw [has_rel HR.out u v ho1, HAS.out huv] at H1
                        have H1 := Lib.hid H1
                        clear hxr hTr
                        go_wp2_with fail
                        have HK0 : Hid (wr.cell? ⟨bo, oo + i, none⟩ = some (.int .i64 (u : Nat)) ∧ wr.cell? ⟨bo, oo + (i + 1), none⟩ = some (.int .i64 (v : Nat))) := ⟨c1, c2⟩
                        have HK7 : Hid (∀ w7, Below wr.heap.size wr w7 → w7.cell? ⟨bo, oo + i, none⟩ = some (.int .i64 (u : Nat)) ∧ w7.cell? ⟨bo, oo + (i + 1), none⟩ = some (.int .i64 (v : Nat))) := fun w7 h7 => ⟨cell_below c1 h7, cell_below c2 h7⟩
                        go_region_held3 (fun w' => w'.cell? ⟨bo, oo + i, none⟩ = some (.int .i64 (u : Nat)) ∧ w'.cell? ⟨bo, oo + (i + 1), none⟩ = some (.int .i64 (v : Nat)))
                          (first
                            | exact HK0.out
                            | assumption
                            | go_keep)
                          (first
                            | (go_at_call 35; refine H1.out.mono ?_; rintro e w7 ⟨rfl, hb7⟩; have hb7' := (below_drewN (Below.refl _ _) 1).trans hb7; have h7 : Below wo.heap.size wo w7 := HBR.out.trans (hb7'.mono HBR.out.size); have hS7 := HK7.out w7 hb7'; clear hb7 hb7'))
                        all_goals
                          have H7 := Lib.hid h7
                          clear h7
                          go_wp2
                          go_roundw
                          case rel => exact ⟨i + 1, by omega, by go_num, H7.out⟩
                          case measure => simp [intOf]; omega
                      · have g1 : ¬ (v : Int) < (u : Int) := by omega
                        go_wp2_with fail
                        go_quiet (fail)
                        go_wp2
                        go_roundw
                        case rel => exact ⟨i + 1, by omega, by go_num, below_drewN HBR.out _⟩
                        case measure => simp [intOf]; omega
                    · go_wp2
                      go_ret
                      exact ⟨rfl, HBO.out.trans (HBR.out.mono HBO.out.size)⟩
end Go.Proofs.YtokehiehfgffmaaDoor
