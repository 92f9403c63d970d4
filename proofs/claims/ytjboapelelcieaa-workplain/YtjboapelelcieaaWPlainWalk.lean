/-
  WorkPlain walked: for every list and every pick it returns true.
-/
import Derived.Test.YtjboapelelcieaaWMany
namespace Go.Proofs.Ytjboapelelcieaa.Wk
open Go.RowKit
set_option linter.unusedVariables false
set_option linter.unusedSimpArgs false
/-- A list to which the first j of xs were pushed. -/
def fed (L Q : Nat) (ps xs : List Int) (j : Nat) : LD := ⟨L, Q, ps, j, (mk ps xs).take j⟩
theorem fed_push (L Q : Nat) (ps xs : List Int) (j : Nat) (h : j < xs.length) : (fed L Q ps xs j).push (xs.getD j 0) = fed L Q ps xs (j + 1) := by
  unfold fed LD.push
  simp only
  rw [mk_take ps xs j h]
/-- A list of which the first j came out. -/
def outF (L Q : Nat) (ps xs : List Int) (j : Nat) : LD := ⟨L, Q, ps, xs.length, (mk ps xs).drop j⟩
/-- A list of which all but the first j came out. -/
def outL (L Q : Nat) (ps xs : List Int) (j : Nat) : LD := ⟨L, Q, ps, xs.length, (mk ps xs).take j⟩
def DownsR (base n : Nat) (w0 : World) (v t : Value) (w : World) : Prop :=
  ∃ j : Nat, j ≤ n ∧ t = .int .i64 (j : Nat) ∧ w.ownsRow base 3 1 v j (ints (downs n j)) ∧ Below base w0 w
def FedR (base La Qa Lb Qb Lc Qc : Nat) (pick : Int) (xs : List Int) (w0 : World) (t : Value) (w : World) : Prop :=
  ∃ j : Nat, j ≤ xs.length ∧ t = .int .i64 (j : Nat) ∧ Tri w base (fed La Qa [] xs j) (fed Lb Qb [pick] xs j) (fed Lc Qc (downs xs.length xs.length) xs j) ∧ Below base w0 w
def OutR (base La Qa Lb Qb Lc Qc : Nat) (pick : Int) (xs : List Int) (w0 : World) (t : Value) (w : World) : Prop :=
  ∃ j : Nat, j ≤ xs.length ∧ t = .int .i64 (j : Nat) ∧ Tri w base (outF La Qa [] xs j) (outF Lb Qb [pick] xs j) (outL Lc Qc (downs xs.length xs.length) xs (xs.length - j)) ∧ Below base w0 w
theorem fed_len (L Q : Nat) (ps xs : List Int) (j : Nat) : (fed L Q ps xs j).m.length ≤ j := by
  show ((mk ps xs).take j).length ≤ j
  rw [List.length_take]
  omega
theorem fed_outF (L Q : Nat) (ps xs : List Int) : fed L Q ps xs xs.length = outF L Q ps xs 0 := by
  unfold fed outF
  rw [List.drop_zero, List.take_of_length_le (by rw [mk_len]; omega)]
theorem fed_outL (L Q : Nat) (ps xs : List Int) : fed L Q ps xs xs.length = outL L Q ps xs (xs.length - 0) := rfl
theorem outF_len (L Q : Nat) (ps xs : List Int) (j : Nat) : (outF L Q ps xs j).m.length = xs.length - j := by
  show ((mk ps xs).drop j).length = _
  rw [List.length_drop, mk_len]
theorem outL_len (L Q : Nat) (ps xs : List Int) (j : Nat) (h : j ≤ xs.length) : (outL L Q ps xs j).m.length = j := by
  show ((mk ps xs).take j).length = _
  rw [List.length_take, mk_len]
  omega
theorem ints_one_new (w : World) (t : TypeId) (x : Int) : IsInts (w.alloc (.cells #[.int .i64 x] t)) (some ⟨w.heap.size, 0, none⟩) 1 1 [x] := by
  refine ⟨rfl, by decide, fun h => (by cases h), .inr ⟨_, _, rfl, fun i hi => ?_⟩⟩
  rw [Blk.cell (Blk.new w t _), Nat.zero_add]
  rcases i with _ | i
  · rfl
  · omega
theorem one_cell (x : Int) : ∀ u ∈ [Value.int .i64 x], u.oneCell' = true := by
  intro u hu
  simp at hu
  subst hu
  rfl
theorem IsInts.from {W w : World} {a : Option Addr} {len cap : Nat} {xs : List Int} (h : IsInts W a len cap xs) (hb : Below W.heap.size W w) : IsInts w a len cap xs := h.below hb
set_option maxRecDepth 100000 in
set_option maxHeartbeats 4000000 in
theorem plain_law (a : Option Addr) (len cap : Nat) (xs : List Int) (pick : Int) (W : World) (hx : IsInts W a len cap xs) (hp : (Lit.int .i64 pick).wf = true) :
    Calls Try.prog 5 #[.slice a len cap, .int .i64 pick] W fun e w' => e = .returned (.bool true) ∧ Below W.heap.size W w' := by
  obtain rfl : xs.length = len := hx.1
  have hlm := hx.2.1
  have HX := Lib.hid hx
  clear hx hp
  obtain ⟨i0, hi, hz0, hz1, hz2⟩ := info_parts Try.infoI
  have HI := Lib.hid hi
  have HZ0 := Lib.hid hz0
  have HZ1 := Lib.hid hz1
  have HZ2 := Lib.hid hz2
  clear hi hz0 hz1 hz2
  by_cases hbig : 60 < xs.length
  · have t1 : decide ((60 : Int) < (xs.length : Int)) = true := by simp; omega
    have t2 : decide (60 < xs.length) = true := by simp; omega
    go_enter Try.func5, Try.ntmps5
    go_wp2_with fail
    refine (begun_any W).mono ?_
    rintro e w1 ⟨rfl, hb1⟩
    go_wp2
    go_ret
    exact ⟨rfl, hb1⟩
  have t1 : decide ((60 : Int) < (xs.length : Int)) = false := by simp; omega
  have t2 : decide (60 < xs.length) = false := by simp; omega
  have hn60 : xs.length ≤ 60 := by omega
  clear hbig
  go_enter Try.func5, Try.ntmps5
  go_wp2_with fail
  refine (begun_any W).mono ?_
  rintro e w1 ⟨rfl, hb1⟩
  have hbase1 := hb1.size
  go_wp2
  go_loopw [5, 6] (fun v t wr => DownsR W.heap.size xs.length W v t wr) (fun _ t _ => xs.length - (intOf t).toNat)
  case atStart => exact ⟨0, Nat.zero_le _, rfl, World.ownsRow_nil _ _ _ _, hb1⟩
  case round =>
    obtain ⟨j, hj, rfl, hown, hbr⟩ := hrel
    have hbs := hbr.size
    by_cases hjl : j < xs.length
    · obtain ⟨av, cv, rfl⟩ := slice_of_own hown
      go_wp2_with (at_builtin; refine wpList_append_own _ rfl (.tmp 29) (.tmp 34) 22 rfl W.heap.size 3 i0 (.int .i64 0) 1 8 Try.underlying22 HI.out HZ0.out HZ1.out HZ2.out rfl (by decide) _ _ _ rfl (hown.alloc _) ⟨wr.heap.size, 0, none⟩ 1 1 [.int .i64 ((xs.length : Int) - (j : Int))] rfl rfl (cell_one_new _ _ _) (one_cell _) (by unfold maxLen; omega) (by omega) (by simp; omega) ?_; intro v' w2 hown2 hgrow2 _)
      go_roundw
      case rel =>
        refine ⟨j + 1, by omega, by go_num, ?_, ((hbr.alloc hbs _).grown hgrow2 (by simp; omega) (fun k hk => (hown.lt k hk).1))⟩
        rw [downs_succ, ints, List.map_append]
        exact hown2
      case measure => simp [intOf]; omega
    · obtain rfl : j = xs.length := by omega
      have hdl : (downs xs.length xs.length).length = xs.length := downs_len _ _
      have HD := Lib.hid hown
      clear hown hb1
      obtain ⟨av, cv, rfl⟩ := slice_of_own HD.out
      go_wp2_with fail
      refine (new_any W.heap.size [] none 0 wr hbs (by decide) ⟨rfl, by decide, fun _ => rfl, .inl rfl⟩).mono ?_
      rintro e w2 ⟨Fa, La, Qa, rfl, hLa, hFa, hb2⟩
      have hs2 := hb2.size
      have hz2 : (w2.alloc (.cells #[.int .i64 pick] 3)).heap.size = w2.heap.size + 1 := by simp
      have HZ := Lib.hid hz2
      clear hz2
      have HLa := Lib.hid hLa
      have HFa := Lib.hid hFa
      have HB2 := Lib.hid hb2
      clear hLa hFa hb2
      go_wp2_with fail
      refine (new_any W.heap.size [pick] (some ⟨w2.heap.size, 0, none⟩) 1 (w2.alloc (.cells #[.int .i64 pick] 3)) (by rw [HZ.out]; omega) (by simp) (ints_one_new _ _ _)).mono ?_
      rintro e w3 ⟨Fb, Lb, Qb, rfl, hLb, hFb, hb3⟩
      have hs3 := hb3.size
      rw [HZ.out] at hs3
      have HLb := Lib.hid hLb
      have HFb := Lib.hid hFb
      have HB3 := Lib.hid hb3
      clear hLb hFb hb3
      have HOW : Hid (w3.ownsRow W.heap.size 3 1 (.slice av xs.length cv) (downs xs.length xs.length).length (ints (downs xs.length xs.length))) := show World.ownsRow _ _ _ _ _ _ _ by
        rw [hdl]
        exact own_below (own_below (own_below HD.out HB2.out) ((Below.refl _ _).alloc (Nat.le_refl _) _)) HB3.out
      obtain ⟨a3, c3, hv3, hI3⟩ := ints_of_own HOW.out (by rw [hdl]; omega)
      rw [hdl] at hv3
      cases hv3
      have HN := Lib.hid (new_any W.heap.size (downs xs.length xs.length) av cv w3 (by omega) (by rw [hdl]; omega) hI3)
      rw [hdl] at HN
      clear hI3 hdl
      go_wp2_with fail
      refine HN.out.mono ?_
      rintro e w4 ⟨Fc, Lc, Qc, rfl, hLc, hFc, hb4⟩
      have hs4 := hb4.size
      have hTri : Tri w4 W.heap.size (fed La Qa [] xs 0) (fed Lb Qb [pick] xs 0) (fed Lc Qc (downs xs.length xs.length) xs 0) := by
        have ha3 := ((HLa.out.only (S := fun _ => False) (Only.of_below ((Below.refl _ _).alloc (Nat.le_refl _) (.cells #[.int .i64 pick] 3))) (fun _ _ h => h)).only (S := fun _ => False) (Only.of_below HB3.out) (fun _ _ h => h)).only (S := fun _ => False) (Only.of_below hb4) (fun _ _ h => h)
        have hb3' := HLb.out.only (S := fun _ => False) (Only.of_below hb4) (fun _ _ h => h)
        refine ⟨Fa, Fb, Fc, ha3, hb3', hLc, fun g hg h => ?_, fun g hg h => ?_, fun g hg h => ?_⟩
        · have h1 := (HLa.out.ins g hg).2
          have h2 := HFb.out g h
          rw [HZ.out] at h2
          omega
        · have h1 := (HLa.out.ins g hg).2
          have h2 := hFc g h
          omega
        · have h1 := (HLb.out.ins g hg).2
          have h2 := hFc g h
          omega
      have hbel4 : Below W.heap.size W w4 := ((hbr.trans (HB2.out.mono hbs)).alloc (by omega) (.cells #[.int .i64 pick] 3)).trans ((HB3.out.mono (by rw [HZ.out]; omega)).trans (hb4.mono (by omega)))
      have HT := Lib.hid hTri
      clear hTri hLc hFc hb4 HLa HFa HB2 HLb HFb HB3 HOW HN HD HZ
      go_wp2
      go_loopw [10] (fun t wr => FedR W.heap.size La Qa Lb Qb Lc Qc pick xs W t wr) (fun t _ => xs.length - (intOf t).toNat)
      case atStart => exact ⟨0, Nat.zero_le _, rfl, HT.out, hbel4⟩
      case round =>
        obtain ⟨j, hj, rfl, hT, hbr⟩ := hrel
        have hbs := hbr.size
        have HT := Lib.hid hT
        clear hT
        by_cases hjl : j < xs.length
        · obtain ⟨b, off, rfl, hc⟩ := HX.out.at (by omega)
          have hlt : b < W.heap.size := World.block_lt_of_cell? W ⟨b, off + j, none⟩ (hc j hjl)
          have c0 := (hbr.cell (p := ⟨b, off + j, none⟩) hlt).trans (hc j hjl)
          have HFP := Lib.hid fun L Q ps => fed_push L Q ps xs j hjl
          generalize xs.getD j 0 = x at c0 HFP
          clear hc
          go_wp2_with fail
          refine (tri_push _ _ _ _ _ _ HT.out (show j < _ by omega) (by have := fed_len La Qa [] xs j; omega)).mono ?_
          rintro e w5 ⟨rfl, hT, hb5⟩
          rw [HFP.out] at hT
          replace HT := Lib.hid hT.turn
          have c1 := (hb5.cell (p := ⟨b, off + j, none⟩) hlt).trans c0
          replace hbr := hbr.trans hb5
          clear hT hb5 c0
          go_wp2_with fail
          refine (tri_push _ _ _ _ _ _ HT.out (show j < _ by omega) (by have := fed_len Lb Qb [pick] xs j; omega)).mono ?_
          rintro e w6 ⟨rfl, hT, hb6⟩
          rw [HFP.out] at hT
          replace HT := Lib.hid hT.turn
          have c2 := (hb6.cell (p := ⟨b, off + j, none⟩) hlt).trans c1
          replace hbr := hbr.trans hb6
          clear hT hb6 c1
          go_wp2_with fail
          refine (tri_push _ _ _ _ _ _ HT.out (show j < _ by omega) (by have := fed_len Lc Qc (downs xs.length xs.length) xs j; omega)).mono ?_
          rintro e w7 ⟨rfl, hT, hb7⟩
          rw [HFP.out] at hT
          replace HT := Lib.hid hT.turn
          replace hbr := hbr.trans hb7
          clear hT hb7 c2
          go_wp2
          go_roundw
          case rel => exact ⟨j + 1, by omega, by go_num, HT.out, hbr⟩
          case measure => simp [intOf]; omega
        · obtain rfl : j = xs.length := by omega
          have hT := HT.out
          rw [fed_outF, fed_outF, fed_outL] at hT
          replace HT := Lib.hid hT
          clear hT
          go_wp2
          go_loopw [11, 12, 13, 14, 15, 16, 17] (fun t _ _ _ _ _ _ wr => OutR W.heap.size La Qa Lb Qb Lc Qc pick xs W t wr) (fun t _ _ _ _ _ _ _ => xs.length - (intOf t).toNat)
          case atStart => exact ⟨0, Nat.zero_le _, rfl, HT.out, hbr⟩
          case round =>
            obtain ⟨i, hi, rfl, hT, hbr⟩ := hrel
            have hbs := hbr.size
            have HT := Lib.hid hT
            clear hT
            by_cases hil : i < xs.length
            · obtain ⟨b, off, rfl, hc⟩ := HX.out.at (by omega)
              obtain ⟨q, hq⟩ : ∃ q, q = xs.length - 1 - i := ⟨_, rfl⟩
              have hlt : b < W.heap.size := World.block_lt_of_cell? W ⟨b, off + i, none⟩ (hc i hil)
              have c0 := (hbr.cell (p := ⟨b, off + i, none⟩) hlt).trans (hc i hil)
              have d0 := (hbr.cell (p := ⟨b, off + q, none⟩) hlt).trans (hc q (by omega))
              have hqd : (xs.length : Int) - 1 - (i : Int) = (q : Int) := by omega
              have hql : q < xs.length := by omega
              have HQ : Hid (xs.length - i = q + 1) := show _ = _ by omega
              have HQ2 : Hid (xs.length - (i + 1) = q) := show _ = _ by omega
              obtain ⟨x, hxv⟩ : ∃ x, x = xs.getD i 0 := ⟨_, rfl⟩
              obtain ⟨z, hzv⟩ : ∃ z, z = xs.getD q 0 := ⟨_, rfl⟩
              rw [← hxv] at c0
              rw [← hzv] at d0
              have HXV := Lib.hid hxv
              have HZV := Lib.hid hzv
              clear hc hq hxv hzv
              have P1 := Lib.hid (tri_pop _ _ _ _ _ HT.out 0 x ((mk [] xs).drop (i + 1)) (by rw [outF_len]; omega) (best_first [] xs i 0 key_none) (by
                show (tat ((mk [] xs).drop i) 0).n = _
                rw [drop_at [] xs i 0 (by omega)]
                exact HXV.out.symm) (erase_first [] xs i) (by rw [outF_len]; omega))
              go_wp2_with fail
              refine P1.out.mono ?_
              rintro e w5 ⟨rfl, hT, hb5⟩
              replace HT := Lib.hid (show Tri w5 W.heap.size (outF Lb Qb [pick] xs i) (outL Lc Qc (downs xs.length xs.length) xs (xs.length - i)) (outF La Qa [] xs (i + 1)) from hT.turn)
              have c1 := (hb5.cell (p := ⟨b, off + i, none⟩) hlt).trans c0
              have d1 := (hb5.cell (p := ⟨b, off + q, none⟩) hlt).trans d0
              replace hbr := hbr.trans hb5
              clear hT hb5 c0 d0 P1
              have P2 := Lib.hid (tri_pop _ _ _ _ _ HT.out 0 x ((mk [pick] xs).drop (i + 1)) (by rw [outF_len]; omega) (best_first [pick] xs i pick (key_one pick)) (by
                show (tat ((mk [pick] xs).drop i) 0).n = _
                rw [drop_at [pick] xs i 0 (by omega)]
                exact HXV.out.symm) (erase_first [pick] xs i) (by rw [outF_len]; omega))
              go_wp2_with fail
              refine P2.out.mono ?_
              rintro e w6 ⟨rfl, hT, hb6⟩
              have hT2 : Tri w6 W.heap.size (outL Lc Qc (downs xs.length xs.length) xs (xs.length - i)) (outF La Qa [] xs (i + 1)) (outF Lb Qb [pick] xs (i + 1)) := hT.turn
              rw [HQ.out] at hT2
              replace HT := Lib.hid hT2
              have c2 := (hb6.cell (p := ⟨b, off + i, none⟩) hlt).trans c1
              have d2 := (hb6.cell (p := ⟨b, off + q, none⟩) hlt).trans d1
              replace hbr := hbr.trans hb6
              clear hT hT2 hb6 c1 d1 P2
              have P3 := Lib.hid (tri_pop _ _ _ _ _ HT.out q z ((mk (downs xs.length xs.length) xs).take q) (by rw [outL_len _ _ _ _ _ (by omega)]; omega) (best_last (downs xs.length xs.length) xs q hql (fun j hj => downs_key _ _ hj)) (by
                show (tat ((mk (downs xs.length xs.length) xs).take (q + 1)) q).n = _
                rw [take_at' _ _ _ _ (by omega) (by omega)]
                exact HZV.out.symm) (erase_last _ _ _ hql) (by rw [outL_len _ _ _ _ _ (by omega)]; omega))
              go_wp2_with fail
              refine P3.out.mono ?_
              rintro e w7 ⟨rfl, hT, hb7⟩
              have hT2 : Tri w7 W.heap.size (outF La Qa [] xs (i + 1)) (outF Lb Qb [pick] xs (i + 1)) (outL Lc Qc (downs xs.length xs.length) xs (xs.length - (i + 1))) := by
                rw [HQ2.out]
                exact hT.turn
              replace HT := Lib.hid hT2
              have c3 := (hb7.cell (p := ⟨b, off + i, none⟩) hlt).trans c2
              have d3 := (hb7.cell (p := ⟨b, off + q, none⟩) hlt).trans d2
              replace hbr := hbr.trans hb7
              clear hT hT2 hb7 c2 d2 P3
              go_wp2
              go_roundw
              case rel => exact ⟨i + 1, by omega, by go_num, HT.out, hbr⟩
              case measure => simp [intOf]; omega
            · go_wp2
              go_ret
              exact ⟨rfl, hbr⟩
end Go.Proofs.Ytjboapelelcieaa.Wk
