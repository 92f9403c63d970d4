/-
  PostOne's walk: for every outcome and every value the call returns true.
-/
import Derived.Test.YtchokfgffnomoaaDoorPTBegun
namespace Go.Proofs.YtchokfgffnomoaaDoor.Lx
open Go.RowKit
open P (CO hd plI hasP)
set_option maxRecDepth 100000
set_option linter.unusedVariables false
set_option linter.unusedSimpArgs false
theorem sml_m (r0 r1 r2 r3 r4 r5 : Nat) : Sml nL nG (mR r0 r1 r2 r3) (mM r4 r5) := by
  refine ⟨by decide, by decide, fun i => ?_, by simp [mR], fun i => ?_, by simp [mM]⟩
  · rcases i with _ | _ | i <;> simp [nG]
  · rcases i with _ | _ | i <;> simp [mR]
theorem lc_leafP (w : World) (o t n : Int) (s : List UInt8) (S : ByteArray) (hS : S = bs s) : LC (fun _ => True) w (.agg #[.int .i64 o, .int .i64 t, .string S, .int .i64 n, .slice none 0 0]) (.mk o t s n []) := by
  subst hS
  unfold LC
  exact ⟨none, 0, rfl, by decide, .inl rfl⟩
theorem hd_mem {rv : List (List Int)} {mv : List Int} (hm : mv.length = 2) {i : Nat} (hi : i < 2) (n : Int) (m : Nat) : hd nL nG rv mv (m + 1) (.mk 1 0 (nL.getD i []) n []) = some (mv.getD i 0 == n) := by
  rw [P.hd_one rfl, if_pos (show ([] : List CO).length = 0 from rfl)]
  have hp : plI (nL.getD i []) nL = i := by
    have : i = 0 ∨ i = 1 := by omega
    rcases this with rfl | rfl <;> decide
  unfold P.hasP
  rw [hp, if_neg (by omega)]
  rfl
theorem hd_reg {rv : List (List Int)} {mv : List Int} (hr : rv.length = 2) {i k : Nat} (hi : i < 2) (hk : k < 2) (hv : (rv.getD i []).length = 2) (n : Int) (m : Nat) : hd nL nG rv mv (m + 1) (.mk 2 (i : Nat) ((nG.getD i []).getD k []) n []) = some ((rv.getD i []).getD k 0 == n) := by
  rw [P.hd_two rfl, if_pos ⟨rfl, by omega, by show (i : Int) < ((2 : Nat) : Int); omega, by omega⟩, Int.toNat_natCast]
  have hp : plI ((nG.getD i []).getD k []) (nG.getD i []) = k := by
    have h1 : i = 0 ∨ i = 1 := by omega
    have h2 : k = 0 ∨ k = 1 := by omega
    rcases h1 with rfl | rfl <;> rcases h2 with rfl | rfl <;> decide
  unfold P.hasP
  rw [hp, if_neg (by omega)]
  rfl
theorem lenL : nL.length = 2 := rfl
theorem lenG : nG.length = 2 := rfl
theorem lenR (r0 r1 r2 r3 : Nat) : (mR r0 r1 r2 r3).length = 2 := rfl
theorem lenM (r4 r5 : Nat) : (mM r4 r5).length = 2 := rfl
theorem lenGi {i : Nat} (h : i < 2) : (nG.getD i []).length = 2 := by
  have h1 : i = 0 ∨ i = 1 := by omega
  rcases h1 with rfl | rfl <;> rfl
theorem lenRi {r0 r1 r2 r3 i : Nat} (h : i < 2) : ((mR r0 r1 r2 r3).getD i []).length = 2 := by
  have h1 : i = 0 ∨ i = 1 := by omega
  rcases h1 with rfl | rfl <;> rfl
set_option maxHeartbeats 12800000 in
theorem postone_walk {B : Nat} (r0 r1 r2 r3 r4 r5 v : Nat) (w : World) (h0 : r0 < 256) (h1 : r1 < 256) (h2 : r2 < 256) (h3 : r3 < 256) (h4 : r4 < 256) (h5 : r5 < 256) (hv : v < 256) (hB : B ≤ w.heap.size) (ht : Tp B w) :
    Calls Tryd.prog 7 #[.agg #[.int .u8 (r0 : Nat), .int .u8 (r1 : Nat), .int .u8 (r2 : Nat), .int .u8 (r3 : Nat), .int .u8 (r4 : Nat), .int .u8 (r5 : Nat)], .int .u8 (v : Nat)] w fun e w' => e = .returned (.bool true) ∧ Below w.heap.size w w' := by
  have HB0 := Lib.hid (one_belowC w (.cells #[.int .u8 (r0 : Nat), .int .u8 (r1 : Nat), .int .u8 (r2 : Nat), .int .u8 (r3 : Nat), .int .u8 (r4 : Nat), .int .u8 (r5 : Nat)] 55))
  have HQ0 := Lib.hid (Blk.new w 55 #[.int .u8 (r0 : Nat), .int .u8 (r1 : Nat), .int .u8 (r2 : Nat), .int .u8 (r3 : Nat), .int .u8 (r4 : Nat), .int .u8 (r5 : Nat)])
  have HT := Lib.hid ht
  have HBG := Lib.hid (begun11_any (B := B) _ (by have := HB0.out.size; omega) (ht.low hB HB0.out))
  have HMD := Lib.hid (fun w' => made11_any r0 r1 r2 r3 r4 r5 w' h0 h1 h2 h3 h4 h5)
  clear ht h0 h1 h2 h3 h4 h5
  go_enter Tryd.func7, Tryd.ntmps7
  go_wp2_with fail
  generalize hW : w.alloc (.cells #[.int .u8 (r0 : Nat), .int .u8 (r1 : Nat), .int .u8 (r2 : Nat), .int .u8 (r3 : Nat), .int .u8 (r4 : Nat), .int .u8 (r5 : Nat)] 55) = W at *
  clear hW
  with_reducible refine HBG.out.mono ?_
  rintro e w1 ⟨rfl, hb1⟩
  have HB1 := Lib.hid (HB0.out.trans (hb1.mono HB0.out.size))
  have HQ1 := Lib.hid (HQ0.out.live' hb1)
  clear hb1 HBG
  go_wp2_with fail
  with_reducible refine (names_any w1).mono ?_
  rintro e w2 ⟨la, ga, rfl, hnam, hb2⟩
  have HN := Lib.hid hnam
  have HB2 := Lib.hid (HB1.out.trans (hb2.mono HB1.out.size))
  have HQ2 := Lib.hid (HQ1.out.live' hb2)
  have q := HQ2.out
  have q0 : w2.cell? ⟨w.heap.size, 0, none⟩ = some (.int .u8 (r0 : Nat)) := q.cell 0
  have q1 : w2.cell? ⟨w.heap.size, 1, none⟩ = some (.int .u8 (r1 : Nat)) := q.cell 1
  have q2 : w2.cell? ⟨w.heap.size, 2, none⟩ = some (.int .u8 (r2 : Nat)) := q.cell 2
  have q3 : w2.cell? ⟨w.heap.size, 3, none⟩ = some (.int .u8 (r3 : Nat)) := q.cell 3
  have q4 : w2.cell? ⟨w.heap.size, 4, none⟩ = some (.int .u8 (r4 : Nat)) := q.cell 4
  have q5 : w2.cell? ⟨w.heap.size, 5, none⟩ = some (.int .u8 (r5 : Nat)) := q.cell 5
  clear hb2 hnam q HB1 HQ1
  go_wp2_with fail
  with_reducible refine (HMD.out w2).mono ?_
  rintro e w3 ⟨ra, ma, rfl, hout, hb3⟩
  have hak := (⟨HN.out.low hb3, hout, sml_m r0 r1 r2 r3 r4 r5⟩ : AkIn w3 la ga ra ma 2 2 nL nG (mR r0 r1 r2 r3) (mM r4 r5))
  have HQ3 := Lib.hid (Blk.new w3 46 #[.slice ra 2 2, .slice ma 2 2])
  have hb4 := one_belowC w3 (.cells #[.slice ra 2 2, .slice ma 2 2] 46)
  have HAK := Lib.hid (hak.low hb4)
  have HB3 := Lib.hid ((HB2.out.trans (hb3.mono HB2.out.size)).trans (hb4.mono (HB2.out.trans (hb3.mono HB2.out.size)).size))
  clear q0 q1 q2 q3 q4 q5 hb3 hb4 hout hak HN HQ2 HB2 HMD HQ0 HB0
  go_wp2_with fail
  generalize hZ : w3.alloc (.cells #[.slice ra 2 2, .slice ma 2 2] 46) = Z at *
  clear hZ
  have HRL : Hid ((mR r0 r1 r2 r3).length = 2) := Lib.hid rfl
  have HML : Hid ((mM r4 r5).length = 2) := Lib.hid rfl
  have HRI := Lib.hid (fun i (hi : i < 2) => lenRi (r0 := r0) (r1 := r1) (r2 := r2) (r3 := r3) hi)
  generalize mR r0 r1 r2 r3 = RV at *
  generalize mM r4 r5 = MV at *
  have hsB := HB3.out.size
  generalize ((v : Nat) : Int) % 3 = N at *
  go_loopw [9] (fun t wr => (∃ i : Nat, t = .int .i64 (i : Nat) ∧ i ≤ 2) ∧ Below Z.heap.size Z wr) (fun t _ => 2 - (intOf t).toNat)
  case atStart => exact ⟨⟨0, rfl, by omega⟩, Below.refl _ _⟩
  case round =>
    obtain ⟨⟨i, rfl, hi⟩, hbr⟩ := hrel
    have HBR := Lib.hid hbr
    clear hbr
    by_cases hlt : i < 2
    · have hlN : i < nL.length := hlt
      have hlM : i < MV.length := by have := HML.out; omega
      obtain ⟨gl, ol, hgl, hcl⟩ := nms_at HAK.out.nam.nlocs hlN
      subst hgl
      obtain ⟨gm, om, hgm, hcm⟩ := ivs_at (vs := MV) (by rw [HML.out]; exact (by have := HAK.out.out.mem; rw [HML.out] at this; exact this)) hlM
      subst hgm
      have hnW : AkIn Z (some ⟨gl, ol, none⟩) ga ra (some ⟨gm, om, none⟩) 2 2 nL nG RV MV := HAK.out
      have HH := Lib.hid (fun w' (hb : Below Z.heap.size Z w') => postHolds_any (gc := 2) (rc := 2) (.mk 1 0 (nL.getD i []) N []) w' _ _ _ _ _ _ _ (hnW.low hb) (lc_leafP w' 1 0 N _ _ rfl))
      rw [hd_mem HML.out hlt] at HH
      generalize nL.getD i [] = XL at *
      generalize bs XL = X at *
      generalize MV.getD i 0 = V at *
      have d1 : (0 : Int) ≤ (i : Int) := by omega
      have d2 : (i : Int) < 2 := by omega
      have HKZ := Lib.hid (show ∀ w', Below Z.heap.size Z w' → w'.cell? ⟨gl, ol + i, none⟩ = some (.string X) ∧ w'.cell? ⟨w3.heap.size, 0, none⟩ = some (.slice ra 2 2) ∧ w'.cell? ⟨w3.heap.size, 1, none⟩ = some (.slice (some ⟨gm, om, none⟩) 2 2) ∧ w'.cell? ⟨gm, om + i, none⟩ = some (.int .i64 V) from fun w' hb => ⟨(hb.cell (p := ⟨gl, ol + i, none⟩) (World.block_lt_of_cell? Z _ hcl)).trans hcl, (HQ3.out.live' hb).cell 0, (HQ3.out.live' hb).cell 1, (hb.cell (p := ⟨gm, om + i, none⟩) (World.block_lt_of_cell? Z _ hcm)).trans hcm⟩)
      have HN := Lib.hid hnW
      have hw2 := HBR.out.size
      have HKS := Lib.hid (fun w' (hb : Below wr.heap.size wr w') => HKZ.out w' (HBR.out.trans (hb.mono hw2)))
      have HK0 := Lib.hid (HKS.out wr (Below.refl _ _))
      have HKD := Lib.hid (HKS.out wr.drew (Below.refl _ _).drew)
      have hb0 : Below wr.heap.size wr wr := Below.refl _ _
      have hbD : Below wr.heap.size wr wr.drew := (Below.refl _ _).drew
      simp only [lenL, lenG, HRL.out, HML.out] at HH
      clear hcl hcm hnW hlN hlM
      have HHB := Lib.hid (fun b (h : (V == N) = b) w' (hb : Below wr.heap.size wr w') => (HH.out w' (HBR.out.trans (hb.mono hw2))).mono fun e w'' (hh : HoTo (some (V == N)) w' e w'') => (show e = .returned (.tuple #[.bool b, .bool true]) ∧ Below wr.heap.size wr w'' from by
        rw [h] at hh
        exact ⟨hh.1, hb.trans (hh.2.mono hb.size)⟩))
      clear HH
      cases hb : (V == N)
      all_goals
        have HH2 := Lib.hid (HHB.out _ hb)
        clear HHB
        go_wp2_with fail
        go_region_held3 (fun w' => w'.cell? ⟨gl, ol + i, none⟩ = some (.string X) ∧ w'.cell? ⟨w3.heap.size, 0, none⟩ = some (.slice ra 2 2) ∧ w'.cell? ⟨w3.heap.size, 1, none⟩ = some (.slice (some ⟨gm, om, none⟩) 2 2) ∧ w'.cell? ⟨gm, om + i, none⟩ = some (.int .i64 V))
          (first
            | with_reducible exact HK0.out
            | with_reducible exact HKD.out
            | with_reducible assumption
            | go_keep)
          ((go_at_call 22; (with_reducible refine (HH2.out _ (by assumption)).mono ?_); rintro e w7 ⟨rfl, hb7⟩; have hS7 := HKS.out w7 hb7))
        all_goals
          have HB7 := Lib.hid (HBR.out.trans (hb7.mono hw2))
          clear HK0 HKD hb7
          obtain ⟨c1, c2, c3, c4⟩ := hS7
          go_wp2_with fail
          go_loopw [12] (fun t wr => (∃ k : Nat, t = .int .i64 (k : Nat) ∧ k ≤ 2) ∧ Below Z.heap.size Z wr) (fun t _ => 2 - (intOf t).toNat)
          case atStart => exact ⟨⟨0, rfl, by omega⟩, HB7.out⟩
          case round =>
            obtain ⟨⟨k, rfl, hk⟩, hbr2⟩ := hrel
            have HBR2 := Lib.hid hbr2
            clear hbr2
            by_cases hltk : k < 2
            · obtain ⟨gg, og, rka, rkc, hga, hcg, hng⟩ := nss_at HN.out.nam.nregs (show i < nG.length from hlt)
              subst hga
              have hkl : k < (nG.getD i []).length := by rw [lenGi hlt]; exact hltk
              obtain ⟨gk, oK, hrk, hck⟩ := nms_at hng hkl
              subst hrk
              obtain ⟨gr, oR, vka, vkc, hra, hcr, hnr⟩ := vss_at HN.out.out.regs (show i < RV.length by rw [HRL.out]; exact hlt)
              subst hra
              have hkv : k < (RV.getD i []).length := by rw [HRI.out i hlt]; exact hltk
              obtain ⟨gs, oS, hvk, hcs⟩ := ivs_at hnr hkv
              subst hvk
              rw [lenGi hlt] at hcg
              rw [HRI.out i hlt] at hcr
              have HH := Lib.hid (fun w' (hb : Below Z.heap.size Z w') => postHolds_any (gc := 2) (rc := 2) (.mk 2 (i : Nat) ((nG.getD i []).getD k []) N []) w' _ _ _ _ _ _ _ (HN.out.low hb) (lc_leafP w' 2 (i : Nat) N _ _ rfl))
              rw [hd_reg HRL.out hlt hltk (HRI.out i hlt)] at HH
              simp only [lenL, lenG, HRL.out, HML.out] at HH
              generalize (nG.getD i []).getD k [] = XL2 at *
              generalize bs XL2 = X2 at *
              generalize (RV.getD i []).getD k 0 = V2 at *
              have e1 : (0 : Int) ≤ (k : Int) := by omega
              have e2 : (k : Int) < 2 := by omega
              have HKZ2 := Lib.hid (show ∀ w', Below Z.heap.size Z w' → w'.cell? ⟨gg, og + i, none⟩ = some (.slice (some ⟨gk, oK, none⟩) 2 rkc) ∧ w'.cell? ⟨gk, oK + k, none⟩ = some (.string X2) ∧ w'.cell? ⟨w3.heap.size, 0, none⟩ = some (.slice (some ⟨gr, oR, none⟩) 2 2) ∧ w'.cell? ⟨w3.heap.size, 1, none⟩ = some (.slice (some ⟨gm, om, none⟩) 2 2) ∧ w'.cell? ⟨gr, oR + i, none⟩ = some (.slice (some ⟨gs, oS, none⟩) 2 vkc) ∧ w'.cell? ⟨gs, oS + k, none⟩ = some (.int .i64 V2) from fun w' hb => ⟨(hb.cell (p := ⟨gg, og + i, none⟩) (World.block_lt_of_cell? Z _ hcg)).trans hcg, (hb.cell (p := ⟨gk, oK + k, none⟩) (World.block_lt_of_cell? Z _ hck)).trans hck, (HQ3.out.live' hb).cell 0, (HQ3.out.live' hb).cell 1, (hb.cell (p := ⟨gr, oR + i, none⟩) (World.block_lt_of_cell? Z _ hcr)).trans hcr, (hb.cell (p := ⟨gs, oS + k, none⟩) (World.block_lt_of_cell? Z _ hcs)).trans hcs⟩)
              have hw3 := HBR2.out.size
              have HKS2 := Lib.hid (fun w' (hb : Below wr.heap.size wr w') => HKZ2.out w' (HBR2.out.trans (hb.mono hw3)))
              have HK0 := Lib.hid (HKS2.out wr (Below.refl _ _))
              have HKD := Lib.hid (HKS2.out wr.drew (Below.refl _ _).drew)
              have hb0 : Below wr.heap.size wr wr := Below.refl _ _
              have hbD : Below wr.heap.size wr wr.drew := (Below.refl _ _).drew
              clear hcg hng hkl hck hcr hnr hkv hcs
              have HHB := Lib.hid (fun b (h : (V2 == N) = b) w' (hb : Below wr.heap.size wr w') => (HH.out w' (HBR2.out.trans (hb.mono hw3))).mono fun e w'' (hh : HoTo (some (V2 == N)) w' e w'') => (show e = .returned (.tuple #[.bool b, .bool true]) ∧ Below wr.heap.size wr w'' from by
                rw [h] at hh
                exact ⟨hh.1, hb.trans (hh.2.mono hb.size)⟩))
              clear HH
              cases hb2 : (V2 == N)
              all_goals
                have HH3 := Lib.hid (HHB.out _ hb2)
                clear HHB
                go_wp2_with fail
                go_region_held3 (fun w' => w'.cell? ⟨gg, og + i, none⟩ = some (.slice (some ⟨gk, oK, none⟩) 2 rkc) ∧ w'.cell? ⟨gk, oK + k, none⟩ = some (.string X2) ∧ w'.cell? ⟨w3.heap.size, 0, none⟩ = some (.slice (some ⟨gr, oR, none⟩) 2 2) ∧ w'.cell? ⟨w3.heap.size, 1, none⟩ = some (.slice (some ⟨gm, om, none⟩) 2 2) ∧ w'.cell? ⟨gr, oR + i, none⟩ = some (.slice (some ⟨gs, oS, none⟩) 2 vkc) ∧ w'.cell? ⟨gs, oS + k, none⟩ = some (.int .i64 V2))
                  (first
                    | with_reducible exact HK0.out
                    | with_reducible exact HKD.out
                    | with_reducible assumption
                    | go_keep)
                  ((go_at_call 22; (with_reducible refine (HH3.out _ (by assumption)).mono ?_); rintro e w9 ⟨rfl, hb9⟩; have hS9 := HKS2.out w9 hb9))
                all_goals
                  have HB9 := Lib.hid (HBR2.out.trans (hb9.mono hw3))
                  clear HK0 HKD hb9
                  obtain ⟨f1, f2, f3, f4, f5, f6⟩ := hS9
                  go_wp2_with fail
                  go_roundw
                  case rel => exact ⟨⟨k + 1, by go_num, by omega⟩, HB9.out⟩
                  case measure => simp [intOf]; omega
            · obtain rfl : k = 2 := by omega
              clear hltk hk
              go_wp2_with fail
              go_roundw
              case rel => exact ⟨⟨i + 1, by go_num, by omega⟩, HBR2.out⟩
              case measure => simp [intOf]; omega
    · obtain rfl : i = 2 := by omega
      clear hlt hi
      go_wp2_with fail
      go_ret
      exact ⟨rfl, HB3.out.trans (HBR.out.mono hsB)⟩
theorem postone_law (r0 r1 r2 r3 r4 r5 v : Nat) (w : World) (h0 : r0 < 256) (h1 : r1 < 256) (h2 : r2 < 256) (h3 : r3 < 256) (h4 : r4 < 256) (h5 : r5 < 256) (hv : v < 256) (ht : Tp w.heap.size w) :
    Calls Tryd.prog 7 #[.agg #[.int .u8 (r0 : Nat), .int .u8 (r1 : Nat), .int .u8 (r2 : Nat), .int .u8 (r3 : Nat), .int .u8 (r4 : Nat), .int .u8 (r5 : Nat)], .int .u8 (v : Nat)] w fun e w' => e = .returned (.bool true) ∧ Below w.heap.size w w' :=
  postone_walk r0 r1 r2 r3 r4 r5 v w h0 h1 h2 h3 h4 h5 hv (Nat.le_refl _) ht
end Go.Proofs.YtchokfgffnomoaaDoor.Lx
