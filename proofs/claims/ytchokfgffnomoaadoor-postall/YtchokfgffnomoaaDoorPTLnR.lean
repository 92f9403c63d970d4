/-
  What the document's Line tells, as a contract.
-/
import Derived.Test.YtchokfgffnomoaaDoorPTLn2
import Derived.Test.YtchokfgffnomoaaDoorPTOrdR
namespace Go.Proofs.YtchokfgffnomoaaDoor.Lx
open Go.RowKit
open P (xN pcs blk)
set_option maxRecDepth 100000
set_option linter.unusedVariables false
set_option linter.unusedSimpArgs false
theorem blk_snoc (l : List (List UInt8)) (p : List UInt8) : blk (l ++ [p]) = blk l ++ (32 :: p) := by
  rw [P.blk_app]
  show blk l ++ (32 :: p ++ blk []) = _
  rw [show blk [] = [] from rfl, List.append_nil]
def LnO (regs : List (List (List UInt8))) (rv : List (List Int)) (W : World) (s t : Value) (wr : World) : Prop := ∃ j : Nat, t = .int .i64 (j : Nat) ∧ j ≤ min regs.length rv.length ∧ s = .string (bs (blk (rgp regs rv j))) ∧ Below W.heap.size W wr
def LnI (L : List (List UInt8)) (F : List UInt8) (ns : List (List UInt8)) (vs : List Int) (W : World) (s i : Value) (wr : World) : Prop := ∃ k : Nat, i = .int .i64 (k : Nat) ∧ k ≤ min ns.length vs.length ∧ s = .string (bs (blk (L ++ (pcs F ns vs).take k))) ∧ Below W.heap.size W wr
/-- What one piece more makes of the text. -/
theorem ln_step {L : List (List UInt8)} {F : List UInt8} {ns : List (List UInt8)} {vs : List Int} {k : Nat} (h1 : k < ns.length) (h2 : k < vs.length) : bs (blk (L ++ (pcs F ns vs).take (k + 1))) = bs (blk (L ++ (pcs F ns vs).take k)) ++ bs [32] ++ bs F ++ bs (ns.getD k []) ++ bs [61] ++ bs (xN (vs.getD k 0)) := by
  rw [pcs_at h1 h2, ← List.append_assoc, blk_snoc, bs_app, bs_app, bs_app, bs_app, bs_app]
  congr 1
  simp
theorem ln_step0 {L : List (List UInt8)} {ns : List (List UInt8)} {vs : List Int} {k : Nat} (h1 : k < ns.length) (h2 : k < vs.length) : bs (blk (L ++ (pcs [] ns vs).take (k + 1))) = bs (blk (L ++ (pcs [] ns vs).take k)) ++ bs [32] ++ bs (ns.getD k []) ++ bs [61] ++ bs (xN (vs.getD k 0)) := by
  rw [ln_step h1 h2, bs_app _ [32], bs_app _ [], List.append_nil]
theorem bs_drop1 (Z : List UInt8) : (bs Z).extract 1 (bs Z).size = bs (Z.drop 1) := by
  apply ByteArray.ext
  rw [ByteArray.data_extract, bs_size]
  show Z.toArray.extract 1 Z.length = (Z.drop 1).toArray
  simp [List.extract_toArray]
  rw [List.take_of_length_le (by simp)]
theorem empty_isP {s : List UInt8} (h : s = []) : (bs s).toList = [] ∧ (bs s).toList.isEmpty = true := by
  subst h
  have me1 : (bs ([] : List UInt8)).toList = [] := by rw [toList_by, by_bs]
  exact ⟨me1, by rw [me1]; rfl⟩
theorem empty_noP {s : List UInt8} (h : s ≠ []) : ¬ (bs s).toList = [] ∧ (bs s).toList.isEmpty = false := by
  have h1 : ¬ (bs s).toList = [] := by
    rw [toList_by, by_bs]
    exact h
  exact ⟨h1, by simpa using h1⟩
theorem ln_len {L : List (List UInt8)} {F : List UInt8} {ns : List (List UInt8)} {vs : List Int} (k : Nat) (hL : ∀ p ∈ L, p.length ≤ 300) (hP : ∀ p ∈ pcs F ns vs, p.length ≤ 300) (hl : L.length ≤ 1000000) (hp : (pcs F ns vs).length ≤ 1000) : (bs (blk (L ++ (pcs F ns vs).take k))).size ≤ 301301000 := by
  rw [bs_size]
  have h1 := blk_len (l := L ++ (pcs F ns vs).take k) (fun p hp => by
    rcases List.mem_append.1 hp with hp | hp
    · exact hL p hp
    · exact hP p (List.mem_of_mem_take hp))
  rw [List.length_append, List.length_take] at h1
  have h2 : (L.length + min k (pcs F ns vs).length) * 301 ≤ 1001000 * 301 := Nat.mul_le_mul_right _ (by omega)
  omega
set_option maxHeartbeats 12800000 in
theorem rLine_any {w : World} {la ga ra ma : Option Addr} {lc gc rc mc : Nat} {locs : List (List UInt8)} {regs : List (List (List UInt8))} {rv : List (List Int)} {mv : List Int} (h : AkIn w la ga ra ma lc mc locs regs rv mv) (hn : ShN locs regs) :
    Calls Tryd.prog 28 #[.slice la locs.length lc, .slice ga regs.length gc, .agg #[.slice ra rv.length rc, .slice ma mv.length mc]] w (TextTo (bs (Lib.join (lnp locs regs rv mv) [32])) w) := by
  have HQ := Lib.hid (Blk.new w 46 #[.slice ra rv.length rc, .slice ma mv.length mc])
  have hb1 := one_belowC w (.cells #[.slice ra rv.length rc, .slice ma mv.length mc] 46)
  have HB := Lib.hid hb1
  have hsz := hb1.size
  have hgl := h.sml.g
  have hrl := h.sml.r
  have hml := h.sml.m
  have hll := h.sml.l
  have H := Lib.hid (h.low hb1)
  have HSN := Lib.hid hn
  have HRS := Lib.hid (fun t (ht : t ≤ 1000) => rgp_short (rv := rv) hn.g (fun i k => (h.out.rok.2 i).2 k) t ht)
  have HRL := Lib.hid (fun t => rgp_len (rv := rv) h.sml.gs t)
  have HRF : Hid (rgp regs rv (min regs.length rv.length) ++ pcs [] locs mv = lnp locs regs rv mv) := Lib.hid rfl
  clear h hb1 hn
  go_enter Tryd.func28, Tryd.ntmps28
  go_wp2_with fail
  generalize hW : w.alloc (.cells #[.slice ra rv.length rc, .slice ma mv.length mc] 46) = W at *
  clear hW
  go_loopw [7, 8] (fun s t wr => LnO regs rv W s t wr) (fun _ t _ => min regs.length rv.length - (intOf t).toNat)
  case atStart => exact ⟨0, rfl, Nat.zero_le _, rfl, Below.refl _ _⟩
  case round =>
    obtain ⟨j, rfl, hj, rfl, hbr⟩ := hrel
    have HBR := Lib.hid hbr
    clear hbr
    by_cases hlt : j < min regs.length rv.length
    · have hj1 : j < regs.length := by omega
      have hj2 : j < rv.length := by omega
      have d1 : (0 : Int) ≤ (j : Int) := by omega
      have d2 : decide ((j : Int) < (regs.length : Int)) = true := decide_eq_true (by omega)
      have d3 : decide (j < regs.length) = true := decide_eq_true hj1
      have d4 : decide ((j : Int) < (rv.length : Int)) = true := decide_eq_true (by omega)
      have d5 : decide (j < rv.length) = true := decide_eq_true hj2
      have d6 : (j : Int) < (regs.length : Int) := by omega
      have d7 : (j : Int) < (rv.length : Int) := by omega
      obtain ⟨g1, o1, na, nc, rfl, hcn, hnn⟩ := nss_at H.out.nam.nregs hj1
      obtain ⟨g2, o2, va, vc, rfl, hcv, hvv⟩ := vss_at H.out.out.regs hj2
      have hjW : W64 (j : Nat) := ⟨by omega, by omega⟩
      have HATO := Lib.hid (show rgp regs rv (j + 1) = rgp regs rv j ++ pcs (xN (j : Nat) ++ [58]) (regs.getD j []) (rv.getD j []) from rfl)
      have hD1 : (bs (xN (j : Nat))).size ≤ 20 := by rw [bs_size]; exact xNum_len _ hjW
      have hns := H.out.sml.gs j
      have hvs := H.out.sml.rs j
      have hss := HSN.out.g j
      have h64 := (H.out.out.rok.2 j).2
      have hFl : (xN (j : Nat) ++ [58]).length ≤ 100 := by
        rw [List.length_append]
        have := xNum_len _ hjW
        simp
        omega
      have hPS := pcs_short (vs := rv.getD j []) hFl hss h64
      have hPL := pcs_len (xN (j : Nat) ++ [58]) (regs.getD j []) (rv.getD j [])
      have hLS := HRS.out j (by omega)
      have hLL := HRL.out j
      have HFB := Lib.hid (show bs (xN (j : Nat) ++ [58]) = bs (xN (j : Nat)) ++ bs [58] from (bs_app _ _).symm)
      have HDJ := Lib.hid (fun w' => rdig_any (j : Nat) hjW w')
      generalize hNS : regs.getD j [] = NS at *
      generalize hVS : rv.getD j [] = VS at *
      generalize hL : rgp regs rv j = L at *
      have HLEN := Lib.hid (fun k => ln_len (F := xN (j : Nat) ++ [58]) (ns := NS) (vs := VS) k hLS hPS (by omega) (by omega))
      have HSS := Lib.hid hss
      have H64 := Lib.hid h64
      have HNN := Lib.hid hnn
      have HVV := Lib.hid hvv
      generalize bs (xN (j : Nat)) = D1 at *
      generalize hF : xN (j : Nat) ++ [58] = F at *
      clear hss h64 hPS hPL hLS hLL hNS hVS hL hF hnn hvv hFl hlt
      obtain ⟨p0, p1⟩ := two_freeP (HQ.out.live' HBR.out)
      have HC2 := Lib.hid (show ∀ w', Below W.heap.size W w' → w'.cell? ⟨w.heap.size, 0, none⟩ = some (.slice (some ⟨g2, o2, none⟩) rv.length rc) ∧ w'.cell? ⟨w.heap.size, 1, none⟩ = some (.slice ma mv.length mc) ∧ w'.cell? ⟨g1, o1 + j, none⟩ = some (.slice na NS.length nc) ∧ w'.cell? ⟨g2, o2 + j, none⟩ = some (.slice va VS.length vc) from fun w' hb => ⟨(HQ.out.live' hb).cell 0, (HQ.out.live' hb).cell 1, (hb.cell (p := ⟨g1, o1 + j, none⟩) (World.block_lt_of_cell? W _ hcn)).trans hcn, (hb.cell (p := ⟨g2, o2 + j, none⟩) (World.block_lt_of_cell? W _ hcv)).trans hcv⟩)
      clear hcn hcv
      go_wp2_with fail
      clear p0 p1
      go_loopw [7, 9] (fun s i wr => LnI L F NS VS W s i wr) (fun _ i _ => min NS.length VS.length - (intOf i).toNat)
      case atStart => exact ⟨0, rfl, Nat.zero_le _, by rw [List.take_zero, List.append_nil], HBR.out⟩
      case round =>
        obtain ⟨k, rfl, hk, rfl, hbr2⟩ := hrel
        have HBR2 := Lib.hid hbr2
        obtain ⟨p0, p1, p2, p3⟩ := HC2.out _ hbr2
        clear hbr2
        by_cases hltk : k < min NS.length VS.length
        · have hk1 : k < NS.length := by omega
          have hk2 : k < VS.length := by omega
          have e1 : (0 : Int) ≤ (k : Int) := by omega
          have e2 : decide ((k : Int) < (NS.length : Int)) = true := decide_eq_true (by omega)
          have e3 : decide (k < NS.length) = true := decide_eq_true hk1
          have e4 : decide ((k : Int) < (VS.length : Int)) = true := decide_eq_true (by omega)
          have e5 : decide (k < VS.length) = true := decide_eq_true hk2
          have e6 : (k : Int) < (NS.length : Int) := by omega
          have e7 : (k : Int) < (VS.length : Int) := by omega
          obtain ⟨g3, o3, rfl, hc3⟩ := nms_at HNN.out hk1
          obtain ⟨g4, o4, rfl, hc4⟩ := ivs_at HVV.out hk2
          have HSTEP := Lib.hid (ln_step (L := L) (F := F) hk1 hk2)
          have hX := HSS.out k
          rw [← bs_size] at hX
          have hV64 := H64.out k
          have hD2 : (bs (xN (VS.getD k 0))).size ≤ 20 := by rw [bs_size]; exact xNum_len _ hV64
          have HDV := Lib.hid (fun w' => rdig_any (VS.getD k 0) hV64 w')
          have hT := HLEN.out k
          generalize NS.getD k [] = XN at *
          generalize VS.getD k 0 = V at *
          generalize bs (xN V) = D2 at *
          generalize bs XN = X at *
          generalize hTT : bs (blk (L ++ (pcs F NS VS).take k)) = T at *
          have HWB := Lib.hid (show ∀ w', Below W.heap.size W w' → w'.cell? ⟨w.heap.size, 0, none⟩ = some (.slice (some ⟨g2, o2, none⟩) rv.length rc) ∧ w'.cell? ⟨g1, o1 + j, none⟩ = some (.slice (some ⟨g3, o3, none⟩) NS.length nc) ∧ w'.cell? ⟨g2, o2 + j, none⟩ = some (.slice (some ⟨g4, o4, none⟩) VS.length vc) ∧ w'.cell? ⟨g3, o3 + k, none⟩ = some (.string X) ∧ w'.cell? ⟨g4, o4 + k, none⟩ = some (.int .i64 V) from fun w' hb => ⟨(HC2.out w' hb).1, (HC2.out w' hb).2.2.1, (HC2.out w' hb).2.2.2, (hb.cell (p := ⟨g3, o3 + k, none⟩) (World.block_lt_of_cell? W _ hc3)).trans hc3, (hb.cell (p := ⟨g4, o4 + k, none⟩) (World.block_lt_of_cell? W _ hc4)).trans hc4⟩)
          have hb20 : Below wr.heap.size wr wr := Below.refl _ _
          have hb2D : Below wr.heap.size wr wr.drew := (Below.refl _ _).drew
          have hw2 := HBR2.out.size
          have hKS := Lib.hid (fun w' (hb : Below wr.heap.size wr w') => HWB.out w' (HBR2.out.trans (hb.mono hw2)))
          have HK0 := Lib.hid (hKS.out wr hb20)
          have HKD := Lib.hid (hKS.out wr.drew hb2D)
          have HDJ2 := Lib.hid (fun w' (hb : Below wr.heap.size wr w') => (HDJ.out w').mono fun e w'' (hh : TextTo D1 w' e w'') => (show e = .returned (.string D1) ∧ Below wr.heap.size wr w'' from ⟨hh.1, hb.trans (hh.2.mono hb.size)⟩))
          have HDV2 := Lib.hid (fun w' (hb : Below wr.heap.size wr w') => (HDV.out w').mono fun e w'' (hh : TextTo D2 w' e w'') => (show e = .returned (.string D2) ∧ Below wr.heap.size wr w'' from ⟨hh.1, hb.trans (hh.2.mono hb.size)⟩))
          have s1 : ¬ T.size + 1 > 9223372036854775807 := by omega
          have s2 : ¬ T.size + 1 + D1.size > 9223372036854775807 := by omega
          have s3 : ¬ T.size + 1 + D1.size + 1 > 9223372036854775807 := by omega
          have s4 : ¬ T.size + 1 + D1.size + 1 + X.size > 9223372036854775807 := by omega
          have s5 : ¬ T.size + 1 + D1.size + 1 + X.size + 1 > 9223372036854775807 := by omega
          have s6 : ¬ T.size + 1 + D1.size + 1 + X.size + 1 + D2.size > 9223372036854775807 := by omega
          clear hc3 hc4 hltk hk1 hk2 hTT hX hT HDV
          go_wp2_with fail
          go_region_held3 (fun w' => w'.cell? ⟨w.heap.size, 0, none⟩ = some (.slice (some ⟨g2, o2, none⟩) rv.length rc) ∧ w'.cell? ⟨g1, o1 + j, none⟩ = some (.slice (some ⟨g3, o3, none⟩) NS.length nc) ∧ w'.cell? ⟨g2, o2 + j, none⟩ = some (.slice (some ⟨g4, o4, none⟩) VS.length vc) ∧ w'.cell? ⟨g3, o3 + k, none⟩ = some (.string X) ∧ w'.cell? ⟨g4, o4 + k, none⟩ = some (.int .i64 V))
            (first
              | with_reducible exact HK0.out
              | with_reducible exact HKD.out
              | with_reducible assumption
              | go_keep)
            (first
              | (go_at_call 35; (with_reducible refine (HDJ2.out _ (by assumption)).mono ?_); rintro e w7 ⟨rfl, hb7⟩; have hS7 := hKS.out w7 hb7)
              | (go_at_call 35; (with_reducible refine (HDV2.out _ (by assumption)).mono ?_); rintro e w8 ⟨rfl, hb8⟩; have hS8 := hKS.out w8 hb8))
          all_goals
            have HB8 := Lib.hid (HBR2.out.trans (hb8.mono hw2))
            clear hb8 hS8 hb7 hS7
            go_wp2_with fail
            go_roundw
            case rel => exact ⟨k + 1, by go_num, by omega, by rw [HSTEP.out, HFB.out]; simp [ByteArray.append_assoc]; rfl, HB8.out⟩
            case measure => simp [intOf]; omega
        · have HKE := Lib.hid (show (pcs F NS VS).take k = pcs F NS VS from List.take_of_length_le (by rw [pcs_len]; omega))
          have HJ1 := Lib.hid (show j + 1 ≤ min regs.length rv.length by omega)
          by_cases hkn : k < NS.length
          · obtain rfl : k = VS.length := by omega
            have e2 : decide ((VS.length : Int) < (NS.length : Int)) = true := decide_eq_true (by omega)
            have e3 : decide (VS.length < NS.length) = true := decide_eq_true hkn
            have e4 : decide ((VS.length : Int) < (VS.length : Int)) = false := by simp
            have e5 : decide (VS.length < VS.length) = false := by simp
            clear hk hltk hkn
            go_wp2_with fail
            go_roundw
            case rel => exact ⟨j + 1, by go_num, HJ1.out, by rw [HKE.out, HATO.out], HBR2.out⟩
            case measure => have := HJ1.out; simp [intOf]; omega
          · obtain rfl : k = NS.length := by omega
            have e2 : decide ((NS.length : Int) < (NS.length : Int)) = false := by simp
            have e3 : decide (NS.length < NS.length) = false := by simp
            clear hk hltk hkn
            go_wp2_with fail
            go_roundw
            case rel => exact ⟨j + 1, by go_num, HJ1.out, by rw [HKE.out, HATO.out], HBR2.out⟩
            case measure => have := HJ1.out; simp [intOf]; omega
    · have HJE := Lib.hid (show j = min regs.length rv.length by omega)
      have HPS := Lib.hid (pcs_short (F := []) (by decide) HSN.out.l H.out.out.mok.2)
      have hPL := pcs_len [] locs mv
      have hLS := HRS.out j (by omega)
      have hLL := HRL.out j
      have HLEN := Lib.hid (fun k => ln_len (F := []) (ns := locs) (vs := mv) k hLS HPS.out (by omega) (by omega))
      rw [← HJE.out] at HRF
      generalize hL : rgp regs rv j = L at *
      have HZL := Lib.hid (show ∀ l, l = lnp locs regs rv mv → (blk l).drop 1 = Lib.join (lnp locs regs rv mv) [32] from fun l hl => by rw [← hl]; exact P.blk_join _)
      generalize Lib.join (lnp locs regs rv mv) [32] = JN at *
      generalize lnp locs regs rv mv = LN at *
      clear hPL hLS hLL hL
      obtain ⟨p0, p1⟩ := two_freeP (HQ.out.live' HBR.out)
      by_cases hjn : rv.length < regs.length
      all_goals
        first
          | (have hx : rv.length < regs.length := hjn
             obtain rfl : j = rv.length := by omega
             have d2 : decide ((rv.length : Int) < (regs.length : Int)) = true := decide_eq_true (by omega)
             have d3 : decide (rv.length < regs.length) = true := decide_eq_true hx
             have d4 : decide ((rv.length : Int) < (rv.length : Int)) = false := by simp
             have d5 : decide (rv.length < rv.length) = false := by simp)
          | (obtain rfl : j = regs.length := by omega
             have d4 : decide ((regs.length : Int) < (regs.length : Int)) = false := by simp
             have d5 : decide (regs.length < regs.length) = false := by simp)
        clear hlt hjn hj
        go_wp2_with fail
        go_loopw [7, 10] (fun s i wr => LnI L [] locs mv W s i wr) (fun _ i _ => min locs.length mv.length - (intOf i).toNat)
        case atStart => exact ⟨0, rfl, Nat.zero_le _, by rw [List.take_zero, List.append_nil], HBR.out⟩
        case round =>
          obtain ⟨k, rfl, hk, rfl, hbr2⟩ := hrel
          have HBR2 := Lib.hid hbr2
          obtain ⟨p0, p1⟩ := two_freeP (HQ.out.live' hbr2)
          clear hbr2
          by_cases hltk : k < min locs.length mv.length
          · have hk1 : k < locs.length := by omega
            have hk2 : k < mv.length := by omega
            have e1 : (0 : Int) ≤ (k : Int) := by omega
            have e2 : decide ((k : Int) < (locs.length : Int)) = true := decide_eq_true (by omega)
            have e3 : decide (k < locs.length) = true := decide_eq_true hk1
            have e4 : decide ((k : Int) < (mv.length : Int)) = true := decide_eq_true (by omega)
            have e5 : decide (k < mv.length) = true := decide_eq_true hk2
            have e6 : (k : Int) < (locs.length : Int) := by omega
            have e7 : (k : Int) < (mv.length : Int) := by omega
            obtain ⟨g3, o3, rfl, hc3⟩ := nms_at H.out.nam.nlocs hk1
            obtain ⟨g4, o4, rfl, hc4⟩ := ivs_at H.out.out.mem hk2
            have HSTEP := Lib.hid (ln_step0 (L := L) hk1 hk2)
            have hX := HSN.out.l k
            rw [← bs_size] at hX
            have hV64 := H.out.out.mok.2 k
            have hD2 : (bs (xN (mv.getD k 0))).size ≤ 20 := by rw [bs_size]; exact xNum_len _ hV64
            have HDV := Lib.hid (fun w' => rdig_any (mv.getD k 0) hV64 w')
            have hT := HLEN.out k
            generalize locs.getD k [] = XN at *
            generalize mv.getD k 0 = V at *
            generalize bs (xN V) = D2 at *
            generalize bs XN = X at *
            generalize hTT : bs (blk (L ++ (pcs [] locs mv).take k)) = T at *
            have HWB := Lib.hid (show ∀ w', Below W.heap.size W w' → w'.cell? ⟨w.heap.size, 1, none⟩ = some (.slice (some ⟨g4, o4, none⟩) mv.length mc) ∧ w'.cell? ⟨g3, o3 + k, none⟩ = some (.string X) ∧ w'.cell? ⟨g4, o4 + k, none⟩ = some (.int .i64 V) from fun w' hb => ⟨(HQ.out.live' hb).cell 1, (hb.cell (p := ⟨g3, o3 + k, none⟩) (World.block_lt_of_cell? W _ hc3)).trans hc3, (hb.cell (p := ⟨g4, o4 + k, none⟩) (World.block_lt_of_cell? W _ hc4)).trans hc4⟩)
            have hb20 : Below wr.heap.size wr wr := Below.refl _ _
            have hb2D : Below wr.heap.size wr wr.drew := (Below.refl _ _).drew
            have hw2 := HBR2.out.size
            have hKS := Lib.hid (fun w' (hb : Below wr.heap.size wr w') => HWB.out w' (HBR2.out.trans (hb.mono hw2)))
            have HK0 := Lib.hid (hKS.out wr hb20)
            have HKD := Lib.hid (hKS.out wr.drew hb2D)
            have HDV2 := Lib.hid (fun w' (hb : Below wr.heap.size wr w') => (HDV.out w').mono fun e w'' (hh : TextTo D2 w' e w'') => (show e = .returned (.string D2) ∧ Below wr.heap.size wr w'' from ⟨hh.1, hb.trans (hh.2.mono hb.size)⟩))
            have s1 : ¬ T.size + 1 > 9223372036854775807 := by omega
            have s4 : ¬ T.size + 1 + X.size > 9223372036854775807 := by omega
            have s5 : ¬ T.size + 1 + X.size + 1 > 9223372036854775807 := by omega
            have s6 : ¬ T.size + 1 + X.size + 1 + D2.size > 9223372036854775807 := by omega
            clear hc3 hc4 hltk hk1 hk2 hTT hX hT HDV p0 p1
            have p1 := HK0.out.1
            go_wp2_with fail
            go_region_held3 (fun w' => w'.cell? ⟨w.heap.size, 1, none⟩ = some (.slice (some ⟨g4, o4, none⟩) mv.length mc) ∧ w'.cell? ⟨g3, o3 + k, none⟩ = some (.string X) ∧ w'.cell? ⟨g4, o4 + k, none⟩ = some (.int .i64 V))
              (first
                | with_reducible exact HK0.out
                | with_reducible exact HKD.out
                | with_reducible assumption
                | go_keep)
              ((go_at_call 35; (with_reducible refine (HDV2.out _ (by assumption)).mono ?_); rintro e w8 ⟨rfl, hb8⟩; have hS8 := hKS.out w8 hb8))
            all_goals
              have HB8 := Lib.hid (HBR2.out.trans (hb8.mono hw2))
              clear hb8 hS8
              go_wp2_with fail
              go_roundw
              case rel => exact ⟨k + 1, by go_num, by omega, by rw [HSTEP.out]; rfl, HB8.out⟩
              case measure => simp [intOf]; omega
          · have HKE := Lib.hid (show (pcs [] locs mv).take k = pcs [] locs mv from List.take_of_length_le (by rw [pcs_len]; omega))
            rw [HKE.out, HRF.out]
            have HJN := Lib.hid (HZL.out LN rfl)
            have hlen := HLEN.out k
            rw [HKE.out, HRF.out] at hlen
            generalize hZ : blk LN = Z at *
            clear hZ
            by_cases hkn : mv.length < locs.length
            all_goals
              first
                | (have hx : mv.length < locs.length := hkn
                   obtain rfl : k = mv.length := by omega
                   have e2 : decide ((mv.length : Int) < (locs.length : Int)) = true := decide_eq_true (by omega)
                   have e3 : decide (mv.length < locs.length) = true := decide_eq_true hx
                   have e4 : decide ((mv.length : Int) < (mv.length : Int)) = false := by simp
                   have e5 : decide (mv.length < mv.length) = false := by simp)
                | (obtain rfl : k = locs.length := by omega
                   have e4 : decide ((locs.length : Int) < (locs.length : Int)) = false := by simp
                   have e5 : decide (locs.length < locs.length) = false := by simp)
              clear hk hltk hkn
              by_cases hz : Z = []
              · obtain ⟨z1, z2⟩ := empty_isP hz
                have HZ := Lib.hid hz
                clear hz
                generalize hZS : bs Z = ZS at *
                go_wp2_with fail
                go_ret
                exact ⟨by rw [← HJN.out, HZ.out]; rfl, HB.out.trans (HBR2.out.mono hsz)⟩
              · obtain ⟨z1, z2⟩ := empty_noP hz
                have hp1 : ¬ ((bs Z).size : Int) < 1 := by
                  rw [bs_size]
                  have : Z.length ≠ 0 := fun h => hz (List.length_eq_zero_iff.1 h)
                  omega
                have HZ := Lib.hid (bs_drop1 Z)
                clear hz
                generalize hZS : bs Z = ZS at *
                go_wp2_with fail
                go_ret
                exact ⟨by rw [← HJN.out, ← HZ.out]; rfl, HB.out.trans (HBR2.out.mono hsz)⟩
end Go.Proofs.YtchokfgffnomoaaDoor.Lx
