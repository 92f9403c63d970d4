import Derived.Test.YtchokfgffnomoaaDoorK3
import Derived.Test.YtchokfgffnomoaaDoorXA
import Derived.Test.YtchokfgffnomoaaDoorQSame
import Derived.Test.YtchokfgffnomoaaDoorK1
import Derived.Test.YtchokfgffnomoaaDoorSHShelf
import Derived.Lib.AppendIntMem
import Derived.Test.YtchokfgffnomoaaDoorK2
import Derived.OpenShut
import Derived.Test.YtchokfgffnomoaaDoorTie
import Derived.Test.YtchokfgffnomoaaDoorCards
import Derived.ProofKit
import Derived.LaidMore
import Derived.ChangeOld
import Derived.Lib.LaidTab
import Derived.Stop.Joined

/-
  What Prog of the document's answer tells, as a contract: a program's text, also of such as may not be.
-/
namespace Go.Proofs.YtchokfgffnomoaaDoor.Lx
open Go.RowKit
open P (EX CO ST PG TX TC TS TSs TI TT TP Bo)
set_option maxRecDepth 100000
set_option linter.unusedVariables false
set_option linter.unusedSimpArgs false
/-- A number's text is told. -/
def DigOk (n : Int) : Prop := ∀ (z : Int) (w : World), z = n → Calls Tryd.prog 35 #[.int .i64 z] w (TextTo (bs (P.xN n)) w)
/-- A condition's text is told. -/
def CondOk (Q : Nat → Prop) (c : CO) : Prop := ∀ (v : Value) (w : World), LC Q w v c → Calls Tryd.prog 17 #[v] w (TextTo (bs (P.xC c)) w)
def hdP (nm d : List UInt8) : List UInt8 := ([108, 105, 116, 109, 117, 115] ++ [32]) ++ ((nm ++ [32]) ++ (([118, 97, 108, 117, 101, 115] ++ [32]) ++ (d ++ [10])))
theorem t_head (nm d : List UInt8) : (((⟨#[108, 105, 116, 109, 117, 115, 32]⟩ ++ bs nm) ++ ⟨#[32, 118, 97, 108, 117, 101, 115, 32]⟩) ++ bs d) ++ ⟨#[10]⟩ = bs (hdP nm d) := by
  show (((bs [108, 105, 116, 109, 117, 115, 32] ++ bs nm) ++ bs [32, 118, 97, 108, 117, 101, 115, 32]) ++ bs d) ++ bs [10] = _
  simp only [bs_app]
  simp [hdP]
theorem t_init (o l d : List UInt8) : ((((bs o ++ ⟨#[105, 110, 105, 116, 32]⟩) ++ bs l) ++ ⟨#[32]⟩) ++ bs d) ++ ⟨#[10]⟩ = bs (o ++ (([105, 110, 105, 116] ++ [32]) ++ ((l ++ [32]) ++ (d ++ [10])))) := by
  show ((((bs o ++ bs [105, 110, 105, 116, 32]) ++ bs l) ++ bs [32]) ++ bs d) ++ bs [10] = _
  simp only [bs_app]
  simp
theorem t_thr (o u : List UInt8) : ((bs o ++ ⟨#[116, 104, 114, 101, 97, 100, 32, 123, 10]⟩) ++ bs u) ++ ⟨#[125, 10]⟩ = bs (o ++ (([116, 104, 114, 101, 97, 100] ++ [32]) ++ (([123] ++ [10]) ++ (u ++ ([125] ++ [10]))))) := by
  show ((bs o ++ bs [116, 104, 114, 101, 97, 100, 32, 123, 10]) ++ bs u) ++ bs [125, 10] = _
  simp only [bs_app]
  simp
theorem t_ask (o a : List UInt8) : bs o ++ bs a = bs (o ++ a) := bs_app o a
theorem t_end (o c : List UInt8) : ((bs o ++ ⟨#[32]⟩) ++ bs c) ++ ⟨#[10]⟩ = bs (o ++ ([32] ++ (c ++ [10]))) := by
  show ((bs o ++ bs [32]) ++ bs c) ++ bs [10] = _
  simp only [bs_app]
  simp
theorem xI_take {cs : List CE} {j : Nat} {c : CE} (h : cs[j]? = some c) : P.xI (cs.take (j + 1)) = P.xI (cs.take j) ++ (([105, 110, 105, 116] ++ [32]) ++ ((c.1 ++ [32]) ++ (P.xN c.2 ++ [10]))) := by
  rw [List.take_add_one, h]
  simp [P.xI]
theorem xI_le {cs : List CE} {j : Nat} : (P.xI (cs.take j)).length ≤ (P.xI cs).length := by
  conv => rhs; rw [← List.take_append_drop j cs]
  simp only [P.xI, List.map_append, List.flatten_append, List.length_append]
  omega
theorem xT_take {cs : List (List ST)} {j : Nat} {c : List ST} (h : cs[j]? = some c) : P.xT (cs.take (j + 1)) = P.xT (cs.take j) ++ (([116, 104, 114, 101, 97, 100] ++ [32]) ++ (([123] ++ [10]) ++ (P.xSs c 1 ++ ([125] ++ [10])))) := by
  rw [List.take_add_one, h]
  simp [P.xT]
theorem xT_le {cs : List (List ST)} {j : Nat} : (P.xT (cs.take j)).length ≤ (P.xT cs).length := by
  conv => rhs; rw [← List.take_append_drop j cs]
  simp only [P.xT, List.map_append, List.flatten_append, List.length_append]
  omega
theorem Below.lpg {Q : Nat → Prop} {w w' : World} (hb : Below w.heap.size w w') {v : Value} {p : PG} (h : LPg Q w v p) : LPg Q w' v p := h.below hb
set_option maxHeartbeats 6400000 in
theorem prog_step (Q : Nat → Prop) (p : PG) (hN : (P.xP p).length ≤ 1000000000000) (hV : DigOk p.vals) (hI : ∀ c ∈ p.init, DigOk c.2) (hT : ∀ l ∈ p.threads, LinesOk Q l 1) (hC : CondOk Q p.cond) (v : Value) (w : World) (hv : LPg Q w v p) :
    Calls Tryd.prog 13 #[v] w (TextTo (bs (P.xP p)) w) := by
  obtain ⟨vi, vt, o, t, s, n, a, m, c, rfl, ⟨a1, c1, rfl, hm1, hr1⟩, ⟨a2, c2, rfl, hm2, hr2⟩, hlc⟩ := hv
  obtain ⟨pn, pvl, pin, pth, pak, pco⟩ := p
  unfold maxLen at hm1 hm2
  simp only at hV hI hT hC hm1 hm2 hr1 hr2 hlc
  have HR1 := Lib.hid hr1
  have HR2 := Lib.hid hr2
  have HL := Lib.hid hlc
  have HV := Lib.hid hV
  have HI := Lib.hid hI
  have HT := Lib.hid hT
  have HC := Lib.hid hC
  have HX := Lib.hid (show P.xP ⟨pn, pvl, pin, pth, pak, pco⟩ = hdP pn (P.xN pvl) ++ (P.xI pin ++ (P.xT pth ++ ((P.xA pak ++ [32]) ++ (P.xC pco ++ [10])))) from rfl)
  have hlen : (P.xP ⟨pn, pvl, pin, pth, pak, pco⟩).length = (hdP pn (P.xN pvl)).length + ((P.xI pin).length + ((P.xT pth).length + ((P.xA pak).length + 1 + ((P.xC pco).length + 1)))) := by
    rw [HX.out]
    simp only [List.length_append, List.length_cons, List.length_nil]
  have hhl : (hdP pn (P.xN pvl)).length = 7 + (pn.length + 1 + (7 + ((P.xN pvl).length + 1))) := by
    simp only [hdP, List.length_append, List.length_cons, List.length_nil]
  have HN := Lib.hid (show (hdP pn (P.xN pvl)).length + ((P.xI pin).length + ((P.xT pth).length + ((P.xA pak).length + 1 + ((P.xC pco).length + 1)))) ≤ 1000000000000 by omega)
  have HH := Lib.hid hhl
  have HTX := Lib.hid (t_head pn (P.xN pvl))
  clear hr1 hr2 hlc hV hI hT hC hN hlen hhl
  show Calls Tryd.prog 13 #[.agg #[.string (bs pn), .int .i64 pvl, .slice a1 pin.length c1, .slice a2 pth.length c2, .int .i64 pak, .int .i64 o, .int .i64 t, .string s, .int .i64 n, .slice a m c]] w (TextTo (bs (P.xP ⟨pn, pvl, pin, pth, pak, pco⟩)) w)
  rw [HX.out]
  have hs0 : (bs pn).size = pn.length := bs_size _
  have hs1 : (bs (P.xN pvl)).size = (P.xN pvl).length := bs_size _
  generalize bs pn = PN at *
  have HB := Lib.hid (Blk.new w 28 #[.string PN, .int .i64 pvl, .slice a1 pin.length c1, .slice a2 pth.length c2, .int .i64 pak, .int .i64 o, .int .i64 t, .string s, .int .i64 n, .slice a m c])
  have HBL := Lib.hid (show Below w.heap.size w (w.alloc (.cells #[.string PN, .int .i64 pvl, .slice a1 pin.length c1, .slice a2 pth.length c2, .int .i64 pak, .int .i64 o, .int .i64 t, .string s, .int .i64 n, .slice a m c] 28)) from (Below.refl _ _).alloc (Nat.le_refl _) _)
  go_enter Tryd.func13, Tryd.ntmps13
  go_upto_region 1 with (fail)
  generalize w.alloc (.cells #[.string PN, .int .i64 pvl, .slice a1 pin.length c1, .slice a2 pth.length c2, .int .i64 pak, .int .i64 o, .int .i64 t, .string s, .int .i64 n, .slice a m c] 28) = W at *
  have hA0 : w.heap.size < W.heap.size := HB.out.lt
  generalize hA1 : w.heap.size = A0 at *
  have HAe := Lib.hid hA1
  clear hA1
  have HDV := Lib.hid (HV.out pvl W.drew rfl)
  have HW7 := Lib.hid (fun (w' : World) (hb : Below W.heap.size W w') => (show w'.cell? ⟨A0, 0, none⟩ = some (.string PN) ∧ w'.cell? ⟨A0, 1, none⟩ = some (.int .i64 pvl) from by
    have hb2 := HB.out.live' hb
    exact ⟨hb2.cell 0, hb2.cell 1⟩))
  have HKS := Lib.hid (HW7.out W (Below.refl _ _))
  have HKD := Lib.hid (HW7.out W.drew (below_one W))
  have hhl := HH.out
  have hnn := HN.out
  generalize bs (P.xN pvl) = D at *
  have z1 : ¬ 9223372036854775807 < 7 + PN.size := by omega
  have z2 : ¬ 9223372036854775807 < 7 + PN.size + 8 := by omega
  have z3 : ¬ 9223372036854775807 < 7 + PN.size + 8 + D.size := by omega
  have z4 : ¬ 9223372036854775807 < 7 + PN.size + 8 + D.size + 1 := by omega
  clear hhl hnn hs0 hs1
  go_region_held3 (fun w' => w'.cell? ⟨A0, 0, none⟩ = some (.string PN) ∧ w'.cell? ⟨A0, 1, none⟩ = some (.int .i64 pvl))
    (first
      | with_reducible exact HKS.out
      | with_reducible exact HKD.out
      | with_reducible assumption
      | go_keep)
    (first
      | (go_at_call 35; (with_reducible refine HDV.out.mono ?_); rintro e w7 ⟨rfl, hb7⟩; have HB7 := Lib.hid ((below_one W).trans (hb7.mono (Nat.le_refl _))); have hS7 := HW7.out w7 HB7.out; clear hb7))
  rw [HTX.out]
  have HB0 := Lib.hid (HB.out.live' HB7.out)
  have HQ0 := Lib.hid (show Below w.heap.size w w7 by
    rw [HAe.out]
    exact HBL.out.trans (HB7.out.mono (by omega)))
  have hl7 : A0 < w7.heap.size := HB0.out.lt
  clear HB HBL HW7 HKS HKD HDV HTX HB7 hS7 z1 z2 z3 z4 hA0
  go_wp2_with fail
  go_loopw [3, 4] (fun sv iv wr => ∃ j : Nat, iv = .int .i64 j ∧ j ≤ pin.length ∧ sv = .string (bs (hdP pn (P.xN pvl) ++ P.xI (pin.take j))) ∧ Below w7.heap.size w7 wr) (fun _ iv _ => pin.length - (intOf iv).toNat)
  case atStart => exact ⟨0, rfl, Nat.zero_le _, by simp [P.xI], Below.refl _ _⟩
  case round =>
    obtain ⟨j, rfl, hj, rfl, hbr⟩ := hrel
    have HBr := Lib.hid (HB0.out.live' hbr)
    have HQr := Lib.hid (HQ0.out.trans (hbr.mono (by rw [HAe.out]; omega)))
    have HBW := Lib.hid hbr
    have hszr := hbr.size
    clear hbr
    have p2 : wr.cell? ⟨A0, 2, none⟩ = some (.slice a1 pin.length c1) := HBr.out.cell 2
    by_cases hlt : j < pin.length
    · rcases HR1.out with hz | ⟨ga, oa, hga, _, hla⟩
      · rw [hz] at hlt
        simp at hlt
      obtain ⟨e1, he1, ha0, ha1⟩ := LEs.at pin hla j hlt
      have hgl : ga < w.heap.size := World.block_lt_of_cell? w _ ha0
      subst hga
      have r0 := (HQr.out.cell (p := ⟨ga, _, none⟩) hgl).trans ha0
      have r1 := (HQr.out.cell (p := ⟨ga, _, none⟩) hgl).trans ha1
      have HDV := Lib.hid (HI.out e1 (List.mem_of_getElem? he1) e1.2 wr.drew rfl)
      have HTX := Lib.hid (show ((((bs (hdP pn (P.xN pvl) ++ P.xI (pin.take j)) ++ ⟨#[105, 110, 105, 116, 32]⟩) ++ bs e1.1) ++ ⟨#[32]⟩) ++ bs (P.xN e1.2)) ++ ⟨#[10]⟩ = bs (hdP pn (P.xN pvl) ++ P.xI (pin.take (j + 1))) by
        rw [t_init, xI_take he1, List.append_assoc])
      have hq : (hdP pn (P.xN pvl)).length + ((P.xI (pin.take j)).length + (5 + (e1.1.length + 1 + ((P.xN e1.2).length + 1)))) ≤ 1000000000000 := by
        have h1 := xI_le (cs := pin) (j := j + 1)
        rw [xI_take he1] at h1
        simp only [List.length_append, List.length_cons, List.length_nil] at h1
        have := HN.out
        omega
      obtain ⟨el, en⟩ := e1
      simp only at r0 r1 HDV HTX hq
      have s1 : (bs (hdP pn (P.xN pvl) ++ P.xI (pin.take j))).size = (hdP pn (P.xN pvl)).length + (P.xI (pin.take j)).length := by rw [bs_size, List.length_append]
      have s2 : (bs el).size = el.length := bs_size _
      have s3 : (bs (P.xN en)).size = (P.xN en).length := bs_size _
      generalize bs (hdP pn (P.xN pvl) ++ P.xI (pin.take j)) = O at *
      generalize bs el = L' at *
      generalize bs (P.xN en) = D at *
      have z1 : ¬ 9223372036854775807 < O.size + 5 := by omega
      have z2 : ¬ 9223372036854775807 < O.size + 5 + L'.size := by omega
      have z3 : ¬ 9223372036854775807 < O.size + 5 + L'.size + 1 := by omega
      have z4 : ¬ 9223372036854775807 < O.size + 5 + L'.size + 1 + D.size := by omega
      have z5 : ¬ 9223372036854775807 < O.size + 5 + L'.size + 1 + D.size + 1 := by omega
      have m1 : (0 : Int) ≤ (j : Int) := by omega
      have m2 : (j : Int) < (pin.length : Int) := by omega
      have hglr : ga < wr.heap.size := World.block_lt_of_cell? wr _ r0
      have hAlr : A0 < wr.heap.size := by omega
      have HK0 : Hid (wr.cell? ⟨A0, 2, none⟩ = some (.slice (some ⟨ga, oa, none⟩) pin.length c1) ∧ wr.cell? ⟨ga, oa + j * 2, none⟩ = some (.string L') ∧ wr.cell? ⟨ga, oa + j * 2 + 1, none⟩ = some (.int .i64 en)) := ⟨p2, r0, r1⟩
      have HK7 : Hid (∀ w', Below wr.heap.size wr w' → w'.cell? ⟨A0, 2, none⟩ = some (.slice (some ⟨ga, oa, none⟩) pin.length c1) ∧ w'.cell? ⟨ga, oa + j * 2, none⟩ = some (.string L') ∧ w'.cell? ⟨ga, oa + j * 2 + 1, none⟩ = some (.int .i64 en)) := fun w' h7 => ⟨(h7.cell (p := ⟨A0, 2, none⟩) hAlr).trans p2, (h7.cell (p := ⟨ga, _, none⟩) hglr).trans r0, (h7.cell (p := ⟨ga, _, none⟩) hglr).trans r1⟩
      have HKD := Lib.hid (HK7.out wr.drew (below_one wr))
      clear hla ha0 ha1 he1 hgl hq s1 s2 s3
      go_wp2_with fail
      go_region_held3 (fun w' => w'.cell? ⟨A0, 2, none⟩ = some (.slice (some ⟨ga, oa, none⟩) pin.length c1) ∧ w'.cell? ⟨ga, oa + j * 2, none⟩ = some (.string L') ∧ w'.cell? ⟨ga, oa + j * 2 + 1, none⟩ = some (.int .i64 en))
        (first
          | with_reducible exact HK0.out
          | with_reducible exact HKD.out
          | with_reducible assumption
          | go_keep)
        (first
          | (go_at_call 35; (with_reducible refine HDV.out.mono ?_); rintro e w8 ⟨rfl, hb8⟩; have HB8 := Lib.hid ((below_one wr).trans (hb8.mono (Nat.le_refl _))); have hS8 := HK7.out w8 HB8.out; clear hb8))
      go_wp2_with fail
      go_roundw
      case rel => exact ⟨j + 1, by go_num, by omega, by rw [← HTX.out], HBW.out.trans (HB8.out.mono (by omega))⟩
      case measure => simp [intOf]; omega
    · have hd1 : decide (j < pin.length) = false := by simpa using hlt
      have hd2 : decide ((j : Int) < (pin.length : Int)) = false := by simpa using hlt
      obtain rfl : j = pin.length := by omega
      rw [List.take_length]
      go_wp2_with fail
      clear hd1 hd2 p2 hlt hj
      have hlr : A0 < wr.heap.size := HBr.out.lt
      generalize wr = wq at *
      clear HB0 HQ0 hl7 HBW hszr
      go_loopw [3, 5] (fun sv iv wr => ∃ k : Nat, iv = .int .i64 k ∧ k ≤ pth.length ∧ sv = .string (bs (hdP pn (P.xN pvl) ++ (P.xI pin ++ P.xT (pth.take k)))) ∧ Below wq.heap.size wq wr) (fun _ iv _ => pth.length - (intOf iv).toNat)
      case atStart => exact ⟨0, rfl, Nat.zero_le _, by simp [P.xT], Below.refl _ _⟩
      case round =>
        obtain ⟨k, rfl, hk, rfl, hbr⟩ := hrel
        have HBz := Lib.hid (HBr.out.live' hbr)
        have HQz := Lib.hid (HQr.out.trans (hbr.mono (by rw [HAe.out]; omega)))
        have HBW := Lib.hid hbr
        have hszr := hbr.size
        clear hbr
        have p3 : wr.cell? ⟨A0, 3, none⟩ = some (.slice a2 pth.length c2) := HBz.out.cell 3
        by_cases hlt : k < pth.length
        · rcases HR2.out with hz | ⟨ga, oa, hga, hqa, hla⟩
          · rw [hz] at hlt
            simp at hlt
          obtain ⟨e1, v1, he1, ha0, hi1⟩ := LTs.at pth hla k hlt
          have hgl : ga < w.heap.size := World.block_lt_of_cell? w _ ha0
          subst hga
          have r0 := (HQz.out.cell (p := ⟨ga, _, none⟩) hgl).trans ha0
          have HIS := Lib.hid (Below.isSs HQz.out hi1)
          have HLN := Lib.hid (HT.out e1 (List.mem_of_getElem? he1) 1 v1 wr rfl HIS.out)
          have HTX := Lib.hid (show ((bs (hdP pn (P.xN pvl) ++ (P.xI pin ++ P.xT (pth.take k))) ++ ⟨#[116, 104, 114, 101, 97, 100, 32, 123, 10]⟩) ++ bs (P.xSs e1 1)) ++ ⟨#[125, 10]⟩ = bs (hdP pn (P.xN pvl) ++ (P.xI pin ++ P.xT (pth.take (k + 1)))) by
            rw [t_thr, xT_take he1, List.append_assoc, List.append_assoc])
          have hq : (hdP pn (P.xN pvl)).length + ((P.xI pin).length + ((P.xT (pth.take k)).length + (9 + ((P.xSs e1 1).length + 2)))) ≤ 1000000000000 := by
            have h1 := xT_le (cs := pth) (j := k + 1)
            rw [xT_take he1] at h1
            simp only [List.length_append, List.length_cons, List.length_nil] at h1
            have := HN.out
            omega
          have s1 : (bs (hdP pn (P.xN pvl) ++ (P.xI pin ++ P.xT (pth.take k)))).size = (hdP pn (P.xN pvl)).length + ((P.xI pin).length + (P.xT (pth.take k)).length) := by rw [bs_size, List.length_append, List.length_append]
          have s3 : (bs (P.xSs e1 1)).size = (P.xSs e1 1).length := bs_size _
          obtain ⟨sa, sca, rfl, hml, _⟩ := hi1
          generalize bs (hdP pn (P.xN pvl) ++ (P.xI pin ++ P.xT (pth.take k))) = O at *
          generalize bs (P.xSs e1 1) = U at *
          have z1 : ¬ 9223372036854775807 < O.size + 9 := by omega
          have z2 : ¬ 9223372036854775807 < O.size + 9 + U.size := by omega
          have z3 : ¬ 9223372036854775807 < O.size + 9 + U.size + 2 := by omega
          have m1 : (0 : Int) ≤ (k : Int) := by omega
          have m2 : (k : Int) < (pth.length : Int) := by omega
          clear hla ha0 he1 hgl hq s1 s3
          go_wp2_with fail
          with_reducible refine HLN.out.mono ?_
          rintro e w8 ⟨rfl, hb8⟩
          have HB8 := Lib.hid (HBW.out.trans (hb8.mono (by omega)))
          clear hb8
          go_wp2_with fail
          go_roundw
          case rel => exact ⟨k + 1, by go_num, by omega, by rw [← HTX.out], HB8.out⟩
          case measure => simp [intOf]; omega
        · have hd1 : decide (k < pth.length) = false := by simpa using hlt
          have hd2 : decide ((k : Int) < (pth.length : Int)) = false := by simpa using hlt
          obtain rfl : k = pth.length := by omega
          rw [List.take_length]
          obtain ⟨⟨x0, x1, x2, x3, x4, x5, x6, x7, x8, x9⟩, _⟩ := ten_free HBz.out
          have HCD := Lib.hid (HC.out _ wr (HL.out.step (fun b hq hl => ⟨hq, HQz.out.block b hl⟩)))
          have hnn := HN.out
          have s1 : (bs (hdP pn (P.xN pvl) ++ (P.xI pin ++ P.xT pth))).size = (hdP pn (P.xN pvl)).length + ((P.xI pin).length + (P.xT pth).length) := by rw [bs_size, List.length_append, List.length_append]
          have s3 : (bs (P.xC pco)).size = (P.xC pco).length := bs_size _
          by_cases k1 : pak = 1
          · subst k1
            have HTX := Lib.hid (show (((bs (hdP pn (P.xN pvl) ++ (P.xI pin ++ P.xT pth)) ++ ⟨#[101, 120, 105, 115, 116, 115]⟩) ++ ⟨#[32]⟩) ++ bs (P.xC pco)) ++ ⟨#[10]⟩ = bs (hdP pn (P.xN pvl) ++ (P.xI pin ++ (P.xT pth ++ ((P.xA 1 ++ [32]) ++ (P.xC pco ++ [10]))))) by
              show (((bs (hdP pn (P.xN pvl) ++ (P.xI pin ++ P.xT pth)) ++ bs [101, 120, 105, 115, 116, 115]) ++ bs [32]) ++ bs (P.xC pco)) ++ bs [10] = _
              simp only [bs_app]
              simp [P.xA, P.askW])
            generalize bs (hdP pn (P.xN pvl) ++ (P.xI pin ++ P.xT pth)) = O at *
            generalize bs (P.xC pco) = C at *
            have z1 : ¬ 9223372036854775807 < O.size + 6 := by omega
            have z2 : ¬ 9223372036854775807 < O.size + 6 + 1 := by omega
            have z3 : ¬ 9223372036854775807 < O.size + 6 + 1 + C.size := by omega
            have z4 : ¬ 9223372036854775807 < O.size + 6 + 1 + C.size + 1 := by omega
            clear hnn s1 s3
            go_wp2_with fail
            with_reducible refine HCD.out.mono ?_
            rintro e w8 ⟨rfl, hb8⟩
            go_wp2_with fail
            go_ret
            exact ⟨by rw [← HTX.out]; rfl, HQz.out.trans (hb8.mono (by rw [HAe.out]; omega))⟩
          · by_cases k2 : pak = 2
            · subst k2
              have HTX := Lib.hid (show (((bs (hdP pn (P.xN pvl) ++ (P.xI pin ++ P.xT pth)) ++ ⟨#[102, 111, 114, 97, 108, 108]⟩) ++ ⟨#[32]⟩) ++ bs (P.xC pco)) ++ ⟨#[10]⟩ = bs (hdP pn (P.xN pvl) ++ (P.xI pin ++ (P.xT pth ++ ((P.xA 2 ++ [32]) ++ (P.xC pco ++ [10]))))) by
                show (((bs (hdP pn (P.xN pvl) ++ (P.xI pin ++ P.xT pth)) ++ bs [102, 111, 114, 97, 108, 108]) ++ bs [32]) ++ bs (P.xC pco)) ++ bs [10] = _
                simp only [bs_app]
                simp [P.xA, P.askW])
              generalize bs (hdP pn (P.xN pvl) ++ (P.xI pin ++ P.xT pth)) = O at *
              generalize bs (P.xC pco) = C at *
              have z1 : ¬ 9223372036854775807 < O.size + 6 := by omega
              have z2 : ¬ 9223372036854775807 < O.size + 6 + 1 := by omega
              have z3 : ¬ 9223372036854775807 < O.size + 6 + 1 + C.size := by omega
              have z4 : ¬ 9223372036854775807 < O.size + 6 + 1 + C.size + 1 := by omega
              clear hnn s1 s3 k1
              go_wp2_with fail
              with_reducible refine HCD.out.mono ?_
              rintro e w8 ⟨rfl, hb8⟩
              go_wp2_with fail
              go_ret
              exact ⟨by rw [← HTX.out]; rfl, HQz.out.trans (hb8.mono (by rw [HAe.out]; omega))⟩
            · have HTX := Lib.hid (show ((bs (hdP pn (P.xN pvl) ++ (P.xI pin ++ P.xT pth)) ++ ⟨#[32]⟩) ++ bs (P.xC pco)) ++ ⟨#[10]⟩ = bs (hdP pn (P.xN pvl) ++ (P.xI pin ++ (P.xT pth ++ ((P.xA pak ++ [32]) ++ (P.xC pco ++ [10]))))) by
                rw [t_end]
                simp [P.xA, k1, k2])
              have e1 : (pak == 1) = false := by simp; omega
              have e2 : (pak == 2) = false := by simp; omega
              generalize bs (hdP pn (P.xN pvl) ++ (P.xI pin ++ P.xT pth)) = O at *
              generalize bs (P.xC pco) = C at *
              have z2 : ¬ 9223372036854775807 < O.size + 1 := by omega
              have z3 : ¬ 9223372036854775807 < O.size + 1 + C.size := by omega
              have z4 : ¬ 9223372036854775807 < O.size + 1 + C.size + 1 := by omega
              clear hnn s1 s3
              go_wp2_with fail
              with_reducible refine HCD.out.mono ?_
              rintro e w8 ⟨rfl, hb8⟩
              go_wp2_with fail
              go_ret
              exact ⟨by rw [← HTX.out]; rfl, HQz.out.trans (hb8.mono (by rw [HAe.out]; omega))⟩
/-- The text of a program that is shown. -/
theorem dig_ok {n : Nat} (h : n ≤ L.top) : DigOk n := fun z w hz => by
  subst hz
  rw [P.xN_nat]
  exact digits_any n w (by unfold L.top at h; omega)
theorem ti_dig {cs : List CE} {t : List UInt8} {b : List Bo} {q : List Nat} (h : TI cs t b q) : ∀ c ∈ cs, DigOk c.2 := by
  induction h with
  | nil => exact fun c hc => by cases hc
  | cons hl hn h ih =>
    intro c hc
    rcases List.mem_cons.1 hc with rfl | hc
    · exact dig_ok hn
    · exact ih c hc
theorem tt_lines (Q : Nat → Prop) {ls : List (List ST)} {t : List UInt8} {b : List Bo} {q : List Nat} (h : TT ls t b q) (hl : t.length ≤ 1000000000000) : ∀ l ∈ ls, LinesOk Q l 1 := by
  induction h with
  | nil => exact fun c hc => by cases hc
  | cons hs h ih =>
    simp only [List.length_append, List.length_cons, List.length_nil] at hl
    intro c hc
    rcases List.mem_cons.1 hc with rfl | hc
    · exact lines_ok Q hs (by omega) (by omega)
    · exact ih (by omega) c hc
theorem prog_text {p : PG} {t : List UInt8} {b : List Bo} {q1 q2 q3 : List Nat} (h : TP p t b q1 q2 q3) (hl : t.length ≤ 1000000000000) (Q : Nat → Prop) (v : Value) (w : World) (hv : LPg Q w v p) :
    Calls Tryd.prog 13 #[v] w (TextTo (bs t) w) := by
  have he := h.xp
  rw [he] at hl ⊢
  refine prog_step Q p hl ?_ ?_ ?_ ?_ v w hv
  · cases h with
    | mk hn hvv hi ht hk hc => exact dig_ok hvv
  · cases h with
    | mk hn hvv hi ht hk hc => exact ti_dig hi
  · rw [← he] at hl
    cases h with
    | mk hn hvv hi ht hk hc =>
      simp only [List.length_append, List.length_cons, List.length_nil] at hl
      exact tt_lines Q ht (by omega)
  · rw [← he] at hl
    cases h with
    | mk hn hvv hi ht hk hc =>
      simp only [List.length_append, List.length_cons, List.length_nil] at hl
      intro v w hv
      rw [← hc.xc]
      exact cond_text hc Q v w hv (by omega)
end Go.Proofs.YtchokfgffnomoaaDoor.Lx
/-
  What Prog of the document's answer tells of any program that is not too great; and how long the text is.
-/
namespace Go.Proofs.YtchokfgffnomoaaDoor.Lx
open Go.RowKit
open P (EX CO ST PG szX czC ltT ltTs ctS ctL)
set_option maxRecDepth 100000
set_option linter.unusedVariables false
set_option linter.unusedSimpArgs false
theorem ind_long (d : Nat) : (P.ind d).length = 2 * d := by
  simp [P.ind]
  try omega
theorem xM_long (m : Int) : (P.xM m).length ≤ 6 := by
  unfold P.xM
  split
  · rename_i h
    obtain ⟨k, rfl⟩ : ∃ k : Nat, m = k := ⟨m.toNat, by omega⟩
    have hk : k < 5 := by omega
    have : ∀ k : Nat, k < 5 → (P.modeT k).length ≤ 6 := by decide
    exact this _ (by omega)
  · simp
mutual
theorem xS_long : ∀ (s : ST) (d : Nat), d ≤ 12 → ltT d s → wfO s → (P.xS s (d + 1)).length ≤ 2000000 * ctS s
  | .mk k m r l ar th el, d, hd, h, hw => by
    unfold P.ltT at h
    unfold wfO at hw
    obtain ⟨h1, h2, h3, h4, h5, h6⟩ := h
    obtain ⟨_, _, _, _, w1, w2, w3⟩ := hw
    have ha : ∀ e ∈ ar, (P.xE e).length ≤ 600000 := fun e he => xE_max (h4 e he) (wfXs_mem w1 e he)
    have k0 := getD_le (f := P.xE) ha 0
    have k1 := getD_le (f := P.xE) ha 1
    have t1 := xSs_long th (d + 1) h5.1 h5.2.2 w2
    have t2 := xSs_long el (d + 1) h5.1 h6.2 w3
    have hm := xM_long m
    have hi := ind_long (d + 1)
    have hc : ctS (.mk k m r l ar th el) = 1 + ctL th + ctL el := by rw [P.ctS]
    rw [hc, P.xS]
    simp only []
    repeat' split
    all_goals
      simp only [List.length_append, List.length_cons, List.length_nil]
      omega
theorem xSs_long : ∀ (ss : List ST) (d : Nat), d ≤ 12 → ltTs d ss → wfOs ss → (P.xSs ss (d + 1)).length ≤ 2000000 * ctL ss
  | [], d, hd, h, hw => by
    rw [P.xSs]
    simp
  | s :: ss, d, hd, h, hw => by
    unfold P.ltTs at h
    unfold wfOs at hw
    have t1 := xS_long s d hd h.1 hw.1
    have t2 := xSs_long ss d hd h.2 hw.2
    rw [P.xSs, P.ctL, List.length_append]
    omega
end
theorem ctL_mem : ∀ {ss : List ST} {s : ST}, s ∈ ss → ctS s ≤ ctL ss
  | x :: ss, s, h => by
    rw [P.ctL]
    rcases List.mem_cons.1 h with rfl | h
    · omega
    · have := ctL_mem h
      omega
/-- Of any statements that are not too many. -/
theorem rlines_any : ∀ (j d : Nat) (l : List ST), 13 - d ≤ j → d ≤ 12 → ltTs d l → ctL l ≤ 300 → wfOs l → ∀ (Q : Nat → Prop), LinesOk Q l (d + 1)
  | 0, d, l, hj, hd, h, hc, hw, Q => by omega
  | j + 1, d, l, hj, hd, h, hc, hw, Q => by
    intro z v w hz hv
    subst hz
    have hlen := xSs_long l d hd h hw
    refine lines_step Q (d + 1) (by omega) l (by omega) (fun s hs => ?_) v w hv
    have hs1 := P.ltTs_mem h s hs
    have hs2 := wfOs_mem hw s hs
    have hs3 := ctL_mem hs
    obtain ⟨k, m, r, lc, ar, th, el⟩ := s
    unfold P.ltT at hs1
    unfold wfO at hs2
    obtain ⟨h1, h2, h3, h4, h5, h6⟩ := hs1
    obtain ⟨_, _, _, _, w1, w2, w3⟩ := hs2
    rw [P.ctS] at hs3
    exact ⟨fun i z v w hz hv => kid_text ar i z hz Q v w hv (fun e he v w' hx => rx_any 13 0 e (by omega) (h4 e he) (wfXs_mem w1 e he) Q v w' hx), rlines_any j (d + 1) th (by omega) h5.1 h5.2.2 (by omega) w2 Q, rlines_any j (d + 1) el (by omega) h5.1 h6.2 (by omega) w3 Q⟩
theorem flat_long {α : Type} {f : α → List UInt8} {B : Nat} : ∀ {l : List α}, (∀ x ∈ l, (f x).length ≤ B) → ((l.map f).flatten).length ≤ l.length * B
  | [], h => by simp
  | x :: l, h => by
    have t1 := h x (.head _)
    have t2 := flat_long (f := f) (l := l) (fun y hy => h y (.tail _ hy))
    simp only [List.map_cons, List.flatten_cons, List.length_append, List.length_cons, Nat.succ_mul]
    omega
theorem xP_long {p : PG} (h : LightG p) (hw : WfG p) : (P.xP p).length ≤ 10000000000 := by
  have n1 := xNum_len p.vals hw.vals
  have c1 := xC_max h.cond hw.cond
  have i1 : (P.xI p.init).length ≤ p.init.length * 100 := flat_long (fun c hc => by
    have := h.loc c hc
    have := xNum_len c.2 (hw.init c hc).2
    simp only [List.length_append, List.length_cons, List.length_nil]
    omega)
  have t1 : (P.xT p.threads).length ≤ p.threads.length * 700000000 := flat_long (fun l hl => by
    have hh := h.thr l hl
    have := xSs_long l 0 (by omega) hh.2.1 (hw.thr l hl)
    simp only [List.length_append, List.length_cons, List.length_nil, Nat.zero_add] at *
    omega)
  have a1 : (P.xA p.ask).length ≤ 10 := by
    unfold P.xA
    split
    · decide
    split
    · decide
    · simp
  have m0 := h.name
  have m1 : p.init.length * 100 ≤ 10 * 100 := Nat.mul_le_mul_right _ h.init
  have m2 : p.threads.length * 700000000 ≤ 10 * 700000000 := Nat.mul_le_mul_right _ h.thrs
  unfold P.xP
  simp only [List.length_append, List.length_cons, List.length_nil]
  omega
/-- Of any program that is not too great. -/
theorem rprog_any {p : PG} (h : LightG p) (hw : WfG p) (Q : Nat → Prop) (v : Value) (w : World) (hv : LPg Q w v p) : Calls Tryd.prog 13 #[v] w (TextTo (bs (P.xP p)) w) :=
  prog_step Q p (by have := xP_long h hw; omega) (fun z w hz => by subst hz; exact rdig_any _ hw.vals w) (fun c hc z w hz => by subst hz; exact rdig_any _ (hw.init c hc).2 w)
    (fun l hl => rlines_any 13 0 l (by omega) (by omega) (h.thr l hl).2.1 (h.thr l hl).2.2 (hw.thr l hl) Q)
    (fun v w hx => rc_any 13 0 p.cond (by omega) h.cond hw.cond Q v w hx) v w hv
end Go.Proofs.YtchokfgffnomoaaDoor.Lx
/-
  ShowAll's walk: for every program, expression, condition and number the call returns true.
-/
namespace Go.Proofs.YtchokfgffnomoaaDoor.Lx
open Go.RowKit
open P (EX CO ST PG szX czC)
set_option maxRecDepth 100000
set_option linter.unusedVariables false
set_option linter.unusedSimpArgs false
theorem blk_atS {w : World} {g : Nat} (t : TypeId) (cs : Array Value) (h : w.heap.size = g) : Blk (w.alloc (.cells cs t)) g t cs := by
  subst h
  exact Blk.new w t cs
theorem three_newS (w : World) (A B C : Array Value) (ta tb tc : TypeId) :
    Below w.heap.size w (((w.alloc (.cells A ta)).alloc (.cells B tb)).alloc (.cells C tc)) ∧ Blk (((w.alloc (.cells A ta)).alloc (.cells B tb)).alloc (.cells C tc)) w.heap.size ta A ∧ Blk (((w.alloc (.cells A ta)).alloc (.cells B tb)).alloc (.cells C tc)) (w.heap.size + 1) tb B ∧ Blk (((w.alloc (.cells A ta)).alloc (.cells B tb)).alloc (.cells C tc)) (w.heap.size + 1 + 1) tc C :=
  ⟨(((Below.refl _ _).alloc (Nat.le_refl _) _).alloc (by simp) _).alloc (by simp; omega) _, ((Blk.new w ta A).alloc _).alloc _, (blk_atS tb B (by simp)).alloc _, blk_atS tc C (by simp)⟩
mutual
theorem okX_of : ∀ (e : EX), wfX e → okX e
  | .mk o n s ks, h => by
    unfold wfX at h
    unfold okX
    exact ⟨h.2.1, okXs_of ks h.2.2.2⟩
theorem okXs_of : ∀ (es : List EX), wfXs es → okXs es
  | [], h => by
    unfold okXs
    trivial
  | e :: es, h => by
    unfold wfXs at h
    unfold okXs
    exact ⟨okX_of e h.1, okXs_of es h.2⟩
end
mutual
theorem okC_of : ∀ (e : CO), wfK e → okC e
  | .mk o t s n ks, h => by
    unfold wfK at h
    unfold okC
    exact ⟨⟨h.2.1, h.2.2.2.1⟩, okCs_of ks h.2.2.2.2⟩
theorem okCs_of : ∀ (es : List CO), wfKs es → okCs es
  | [], h => by
    unfold okCs
    trivial
  | e :: es, h => by
    unfold wfKs at h
    unfold okCs
    exact ⟨okC_of e h.1, okCs_of es h.2⟩
end
mutual
theorem okS_of : ∀ (e : ST), wfO e → okS e
  | .mk k m r l a th el, h => by
    unfold wfO at h
    unfold okS
    exact ⟨okXs_of a h.2.2.2.2.1, okSs_of th h.2.2.2.2.2.1, okSs_of el h.2.2.2.2.2.2⟩
theorem okSs_of : ∀ (es : List ST), wfOs es → okSs es
  | [], h => by
    unfold okSs
    trivial
  | e :: es, h => by
    unfold wfOs at h
    unfold okSs
    exact ⟨okS_of e h.1, okSs_of es h.2⟩
end
theorem okP_of {p : PG} (h : WfG p) : OkP p := ⟨h.vals, fun c hc => (h.init c hc).2, fun l hl => okSs_of l (h.thr l hl), okC_of _ h.cond⟩
theorem lpg_low {w w' : World} {v : Value} {p : PG} (h : LPg (fun _ => True) w v p) (hb : Below w.heap.size w w') : LPg (fun _ => True) w' v p := h.keep (fun g _ hl => hb.block g hl)
theorem lx_low {w w' : World} {v : Value} {e : EX} (h : LX (fun _ => True) w v e) (hb : Below w.heap.size w w') : LX (fun _ => True) w' v e := LX.keep (Keeps.below hb (Nat.le_refl _)) e h
theorem lc_low {w w' : World} {v : Value} {e : CO} (h : LC (fun _ => True) w v e) (hb : Below w.heap.size w w') : LC (fun _ => True) w' v e := LC.keep (Keeps.below hb (Nat.le_refl _)) e h
set_option maxHeartbeats 51200000 in
theorem showall_walk (vp ve vc : Value) (m : Int) (w : World) (hp : ∃ p, LPg (fun _ => True) w vp p ∧ WfG p) (hx : ∃ e, LX (fun _ => True) w ve e ∧ wfX e) (hc : ∃ e, LC (fun _ => True) w vc e ∧ wfK e) (ht : Tb w.heap.size w) :
    Calls Tryd.prog 3 #[vp, ve, vc, .int .i64 m] w fun e w' => e = .returned (.bool true) ∧ Below w.heap.size w w' := by
  obtain ⟨p, hp, hwp⟩ := hp
  obtain ⟨x, hx, hwx⟩ := hx
  obtain ⟨c, hc, hwc⟩ := hc
  have hp0 := hp
  obtain ⟨vi, vt, o, t, s, n, a, mm, cc, rfl, _, _, _⟩ := hp0
  obtain ⟨xo, xn, xs, xk⟩ := x
  have hx0 := hx
  unfold LX at hx0
  obtain ⟨xa, xc, rfl, _, _⟩ := hx0
  obtain ⟨co, ct, cs, cn, ck⟩ := c
  have hc0 := hc
  unfold LC at hc0
  obtain ⟨ca, ccap, rfl, _, _⟩ := hc0
  obtain ⟨hb3, hqp, hqx, hqc⟩ := three_newS w #[.string (bs p.name), .int .i64 p.vals, vi, vt, .int .i64 p.ask, .int .i64 o, .int .i64 t, .string s, .int .i64 n, .slice a mm cc] #[.int .i64 xo, .int .i64 xn, .string (bs xs), .slice xa xk.length xc] #[.int .i64 co, .int .i64 ct, .string (bs cs), .int .i64 cn, .slice ca ck.length ccap] 28 31 26
  have HB0 := Lib.hid hb3
  have HQP := Lib.hid hqp
  have HQX := Lib.hid hqx
  have HQC := Lib.hid hqc
  have HP := Lib.hid (lpg_low hp hb3)
  have HX := Lib.hid (lx_low hx hb3)
  have HC := Lib.hid (lc_low hc hb3)
  have HT := Lib.hid (ht.from hb3 hb3.size)
  have HWP := Lib.hid hwp
  have HWX := Lib.hid hwx
  have HWC := Lib.hid hwc
  clear hp hx hc hb3 hqp hqx hqc ht hwp hwx hwc
  go_enter Tryd.func3, Tryd.ntmps3
  go_wp2_with fail
  generalize ((w.alloc (.cells #[.string (bs p.name), .int .i64 p.vals, vi, vt, .int .i64 p.ask, .int .i64 o, .int .i64 t, .string s, .int .i64 n, .slice a mm cc] 28)).alloc (.cells #[.int .i64 xo, .int .i64 xn, .string (bs xs), .slice xa xk.length xc] 31)).alloc (.cells #[.int .i64 co, .int .i64 ct, .string (bs cs), .int .i64 cn, .slice ca ck.length ccap] 26) = W at *
  have HKS := Lib.hid (show ∀ w', Below W.heap.size W w' → (w'.cell? ⟨w.heap.size, 0, none⟩ = some (.string (bs p.name)) ∧ w'.cell? ⟨w.heap.size, 1, none⟩ = some (.int .i64 p.vals) ∧ w'.cell? ⟨w.heap.size, 2, none⟩ = some (vi) ∧ w'.cell? ⟨w.heap.size, 3, none⟩ = some (vt) ∧ w'.cell? ⟨w.heap.size, 4, none⟩ = some (.int .i64 p.ask) ∧ w'.cell? ⟨w.heap.size, 5, none⟩ = some (.int .i64 o) ∧ w'.cell? ⟨w.heap.size, 6, none⟩ = some (.int .i64 t) ∧ w'.cell? ⟨w.heap.size, 7, none⟩ = some (.string s) ∧ w'.cell? ⟨w.heap.size, 8, none⟩ = some (.int .i64 n) ∧ w'.cell? ⟨w.heap.size, 9, none⟩ = some (.slice a mm cc) ∧ w'.cell? ⟨w.heap.size + 1, 0, none⟩ = some (.int .i64 xo) ∧ w'.cell? ⟨w.heap.size + 1, 1, none⟩ = some (.int .i64 xn) ∧ w'.cell? ⟨w.heap.size + 1, 2, none⟩ = some (.string (bs xs)) ∧ w'.cell? ⟨w.heap.size + 1, 3, none⟩ = some (.slice xa xk.length xc) ∧ w'.cell? ⟨w.heap.size + 1 + 1, 0, none⟩ = some (.int .i64 co) ∧ w'.cell? ⟨w.heap.size + 1 + 1, 1, none⟩ = some (.int .i64 ct) ∧ w'.cell? ⟨w.heap.size + 1 + 1, 2, none⟩ = some (.string (bs cs)) ∧ w'.cell? ⟨w.heap.size + 1 + 1, 3, none⟩ = some (.int .i64 cn) ∧ w'.cell? ⟨w.heap.size + 1 + 1, 4, none⟩ = some (.slice ca ck.length ccap)) from fun w' hb => ⟨(HQP.out.live' hb).cell 0, (HQP.out.live' hb).cell 1, (HQP.out.live' hb).cell 2, (HQP.out.live' hb).cell 3, (HQP.out.live' hb).cell 4, (HQP.out.live' hb).cell 5, (HQP.out.live' hb).cell 6, (HQP.out.live' hb).cell 7, (HQP.out.live' hb).cell 8, (HQP.out.live' hb).cell 9, (HQX.out.live' hb).cell 0, (HQX.out.live' hb).cell 1, (HQX.out.live' hb).cell 2, (HQX.out.live' hb).cell 3, (HQC.out.live' hb).cell 0, (HQC.out.live' hb).cell 1, (HQC.out.live' hb).cell 2, (HQC.out.live' hb).cell 3, (HQC.out.live' hb).cell 4⟩)
  with_reducible refine (begun8_any W HT.out).mono ?_
  rintro e w1 ⟨rfl, hb1⟩
  have HB1 := Lib.hid hb1
  obtain ⟨q0, q1, q2, q3, q4, q5, q6, q7, q8, q9, q10, q11, q12, q13, q14, q15, q16, q17, q18⟩ := HKS.out w1 hb1
  have HV := Lib.hid (heavy_any p _ w1 (lpg_low HP.out hb1) HWP.out)
  clear hb1
  go_wp2_with fail
  with_reducible refine HV.out.mono ?_
  rintro e w2 ⟨b, rfl, hlight, hb2⟩
  have HB2 := Lib.hid (HB1.out.trans (hb2.mono HB1.out.size))
  have HL := Lib.hid hlight
  clear hb2 hlight HV q0 q1 q2 q3 q4 q5 q6 q7 q8 q9 q10 q11 q12 q13 q14 q15 q16 q17 q18
  cases b
  case true =>
    go_wp2_with fail
    go_ret
    exact ⟨rfl, HB0.out.trans (HB2.out.mono HB0.out.size)⟩
  have HLG := Lib.hid (HL.out rfl)
  clear HL HB1
  obtain ⟨q0, q1, q2, q3, q4, q5, q6, q7, q8, q9, q10, q11, q12, q13, q14, q15, q16, q17, q18⟩ := HKS.out w2 HB2.out
  have HSX := Lib.hid (size_any 13 0 _ (by omega) (by omega) 0 _ w2 rfl (lx_low HX.out HB2.out) HWX.out)
  by_cases hbx : 300 < szX 0 (.mk xo xn xs xk)
  · have e1 : decide ((300 : Int) < (szX 0 (.mk xo xn xs xk) : Nat)) = true := decide_eq_true (by omega)
    go_wp2_with fail
    with_reducible refine HSX.out.mono ?_
    rintro e w3 ⟨rfl, hb3⟩
    go_wp2_with fail
    go_ret
    exact ⟨rfl, HB0.out.trans ((HB2.out.trans (hb3.mono HB2.out.size)).mono HB0.out.size)⟩
  have e1 : decide ((300 : Int) < (szX 0 (.mk xo xn xs xk) : Nat)) = false := decide_eq_false (by omega)
  go_wp2_with fail
  with_reducible refine HSX.out.mono ?_
  rintro e w3 ⟨rfl, hb3⟩
  have HB3 := Lib.hid (HB2.out.trans (hb3.mono HB2.out.size))
  clear hb3 HSX q0 q1 q2 q3 q4 q5 q6 q7 q8 q9 q10 q11 q12 q13 q14 q15 q16 q17 q18
  obtain ⟨q0, q1, q2, q3, q4, q5, q6, q7, q8, q9, q10, q11, q12, q13, q14, q15, q16, q17, q18⟩ := HKS.out w3 HB3.out
  have HSC := Lib.hid (csize_any 13 0 _ (by omega) (by omega) 0 _ w3 rfl (lc_low HC.out HB3.out) HWC.out)
  by_cases hbc : 300 < czC 0 (.mk co ct cs cn ck)
  · have e2 : decide ((300 : Int) < (czC 0 (.mk co ct cs cn ck) : Nat)) = true := decide_eq_true (by omega)
    go_wp2_with fail
    with_reducible refine HSC.out.mono ?_
    rintro e w4 ⟨rfl, hb4⟩
    go_wp2_with fail
    go_ret
    exact ⟨rfl, HB0.out.trans ((HB3.out.trans (hb4.mono HB3.out.size)).mono HB0.out.size)⟩
  have e2 : decide ((300 : Int) < (czC 0 (.mk co ct cs cn ck) : Nat)) = false := decide_eq_false (by omega)
  go_wp2_with fail
  with_reducible refine HSC.out.mono ?_
  rintro e w4 ⟨rfl, hb4⟩
  have HB4 := Lib.hid (HB3.out.trans (hb4.mono HB3.out.size))
  clear hb4 HSC q0 q1 q2 q3 q4 q5 q6 q7 q8 q9 q10 q11 q12 q13 q14 q15 q16 q17 q18 HB2 HB3
  have HLX := Lib.hid (show szX 0 (.mk xo xn xs xk) ≤ 300 by omega)
  have HLC := Lib.hid (show czC 0 (.mk co ct cs cn ck) ≤ 300 by omega)
  clear e1 hbx hbc
  have M1 := Lib.hid (fun w' (hb : Below W.heap.size W w') => (show_prog p (okP_of HWP.out) (by have := xP_long HLG.out HWP.out; unfold big; omega) _ w' (lpg_low HP.out hb) (HT.out.from hb hb.size)).mono fun e w'' (hh : ShowTo (P.xP p) w' e w'') => (show e = .returned (.string (bs (P.xP p))) ∧ Below W.heap.size W w'' from ⟨hh.1, hb.trans (hh.2.mono hb.size)⟩))
  have M2 := Lib.hid (fun w' (hb : Below W.heap.size W w') => (rprog_any HLG.out HWP.out _ _ w' (lpg_low HP.out hb)).mono fun e w'' (hh : TextTo (bs (P.xP p)) w' e w'') => (show e = .returned (.string (bs (P.xP p))) ∧ Below W.heap.size W w'' from ⟨hh.1, hb.trans (hh.2.mono hb.size)⟩))
  have M3 := Lib.hid (fun w' (hb : Below W.heap.size W w') => (show_exprA _ (okX_of _ HWX.out) (by have := xE_max HLX.out HWX.out; unfold big; omega) _ w' (lx_low HX.out hb) (HT.out.from hb hb.size)).mono fun e w'' (hh : ShowAs (P.xE (.mk xo xn xs xk)) w' e w'') => (show e = .returned (.string (bs (P.xE (.mk xo xn xs xk)))) ∧ Below W.heap.size W w'' from ⟨hh.1, hb.trans (hh.2.mono hb.size)⟩))
  have M4 := Lib.hid (fun w' (hb : Below W.heap.size W w') => (rx_any 13 0 _ (by omega) HLX.out HWX.out _ _ w' (lx_low HX.out hb)).mono fun e w'' (hh : TextTo (bs (P.xE (.mk xo xn xs xk))) w' e w'') => (show e = .returned (.string (bs (P.xE (.mk xo xn xs xk)))) ∧ Below W.heap.size W w'' from ⟨hh.1, hb.trans (hh.2.mono hb.size)⟩))
  have M5 := Lib.hid (fun w' (hb : Below W.heap.size W w') => (show_condA _ (okC_of _ HWC.out) (by have := xC_max HLC.out HWC.out; unfold big; omega) _ w' (lc_low HC.out hb) (HT.out.from hb hb.size)).mono fun e w'' (hh : ShowAs (P.xC (.mk co ct cs cn ck)) w' e w'') => (show e = .returned (.string (bs (P.xC (.mk co ct cs cn ck)))) ∧ Below W.heap.size W w'' from ⟨hh.1, hb.trans (hh.2.mono hb.size)⟩))
  have M6 := Lib.hid (fun w' (hb : Below W.heap.size W w') => (rc_any 13 0 _ (by omega) HLC.out HWC.out _ _ w' (lc_low HC.out hb)).mono fun e w'' (hh : TextTo (bs (P.xC (.mk co ct cs cn ck))) w' e w'') => (show e = .returned (.string (bs (P.xC (.mk co ct cs cn ck)))) ∧ Below W.heap.size W w'' from ⟨hh.1, hb.trans (hh.2.mono hb.size)⟩))
  have M7 := Lib.hid (fun w' (hb : Below W.heap.size W w') => (mode_is m w').mono fun e w'' hh => (show e = .returned (.string (bs (P.xM m))) ∧ Below W.heap.size W w'' from ⟨hh.1, hh.2 ▸ hb⟩))
  have M8 := Lib.hid (fun w' (hb : Below W.heap.size W w') => (modeX_text m w').mono fun e w'' hh => (show e = .returned (.string (bs (P.xM m))) ∧ Below W.heap.size W w'' from ⟨hh.1, hh.2 ▸ hb⟩))
  generalize bs (P.xP p) = T1 at *
  generalize bs (P.xE (.mk xo xn xs xk)) = T2 at *
  generalize bs (P.xC (.mk co ct cs cn ck)) = T3 at *
  generalize bs (P.xM m) = T4 at *
  clear HP HX HC HT HWP HWX HWC HLG HLX HLC HQP HQX HQC
  have hb0 := HB4.out
  have hbD : Below W.heap.size W w4.drew := HB4.out.drew
  have hk0 := HKS.out w4 hb0
  have hkD := HKS.out w4.drew hbD
  go_wp2_with fail
  go_region_held3 (fun w' => (w'.cell? ⟨w.heap.size, 0, none⟩ = some (.string (bs p.name)) ∧ w'.cell? ⟨w.heap.size, 1, none⟩ = some (.int .i64 p.vals) ∧ w'.cell? ⟨w.heap.size, 2, none⟩ = some (vi) ∧ w'.cell? ⟨w.heap.size, 3, none⟩ = some (vt) ∧ w'.cell? ⟨w.heap.size, 4, none⟩ = some (.int .i64 p.ask) ∧ w'.cell? ⟨w.heap.size, 5, none⟩ = some (.int .i64 o) ∧ w'.cell? ⟨w.heap.size, 6, none⟩ = some (.int .i64 t) ∧ w'.cell? ⟨w.heap.size, 7, none⟩ = some (.string s) ∧ w'.cell? ⟨w.heap.size, 8, none⟩ = some (.int .i64 n) ∧ w'.cell? ⟨w.heap.size, 9, none⟩ = some (.slice a mm cc) ∧ w'.cell? ⟨w.heap.size + 1, 0, none⟩ = some (.int .i64 xo) ∧ w'.cell? ⟨w.heap.size + 1, 1, none⟩ = some (.int .i64 xn) ∧ w'.cell? ⟨w.heap.size + 1, 2, none⟩ = some (.string (bs xs)) ∧ w'.cell? ⟨w.heap.size + 1, 3, none⟩ = some (.slice xa xk.length xc) ∧ w'.cell? ⟨w.heap.size + 1 + 1, 0, none⟩ = some (.int .i64 co) ∧ w'.cell? ⟨w.heap.size + 1 + 1, 1, none⟩ = some (.int .i64 ct) ∧ w'.cell? ⟨w.heap.size + 1 + 1, 2, none⟩ = some (.string (bs cs)) ∧ w'.cell? ⟨w.heap.size + 1 + 1, 3, none⟩ = some (.int .i64 cn) ∧ w'.cell? ⟨w.heap.size + 1 + 1, 4, none⟩ = some (.slice ca ck.length ccap)))
    (first
      | with_reducible exact hk0
      | with_reducible exact hkD
      | with_reducible assumption
      | go_keep)
    (first
      | (go_at_call 12; (with_reducible refine (M1.out _ (by assumption)).mono ?_); rintro e w9 ⟨rfl, hb9⟩; have hS9 := HKS.out w9 hb9)
      | (go_at_call 13; (with_reducible refine (M2.out _ (by assumption)).mono ?_); rintro e w9 ⟨rfl, hb9⟩; have hS9 := HKS.out w9 hb9)
      | (go_at_call 14; (with_reducible refine (M3.out _ (by assumption)).mono ?_); rintro e w9 ⟨rfl, hb9⟩; have hS9 := HKS.out w9 hb9)
      | (go_at_call 15; (with_reducible refine (M4.out _ (by assumption)).mono ?_); rintro e w9 ⟨rfl, hb9⟩; have hS9 := HKS.out w9 hb9)
      | (go_at_call 16; (with_reducible refine (M5.out _ (by assumption)).mono ?_); rintro e w9 ⟨rfl, hb9⟩; have hS9 := HKS.out w9 hb9)
      | (go_at_call 17; (with_reducible refine (M6.out _ (by assumption)).mono ?_); rintro e w9 ⟨rfl, hb9⟩; have hS9 := HKS.out w9 hb9)
      | (go_at_call 18; (with_reducible refine (M7.out _ (by assumption)).mono ?_); rintro e w9 ⟨rfl, hb9⟩; have hS9 := HKS.out w9 hb9)
      | (go_at_call 19; (with_reducible refine (M8.out _ (by assumption)).mono ?_); rintro e w9 ⟨rfl, hb9⟩; have hS9 := HKS.out w9 hb9))
  all_goals
    have HB9 := Lib.hid hb9
    clear hk0 hkD hb0 hbD hS9 hb9
    go_wp2_with fail
    go_ret
    exact ⟨rfl, HB0.out.trans (HB9.out.mono HB0.out.size)⟩
theorem showall_law (vp ve vc : Value) (m : Int) (w : World) (hp : ∃ p, LPg (fun _ => True) w vp p ∧ WfG p) (hx : ∃ e, LX (fun _ => True) w ve e ∧ wfX e) (hc : ∃ e, LC (fun _ => True) w vc e ∧ wfK e) (hm : (Lit.int .i64 m).wf = true) (ht : Tb w.heap.size w) :
    Calls Tryd.prog 3 #[vp, ve, vc, .int .i64 m] w fun e w' => e = .returned (.bool true) ∧ Below w.heap.size w w' := showall_walk vp ve vc m w hp hx hc ht
end Go.Proofs.YtchokfgffnomoaaDoor.Lx
/-
  What strconv.Itoa tells, as a contract.
-/
namespace Go.Proofs.YtchokfgffnomoaaDoor.Lx
open Go.RowKit
open P (xN)
set_option maxRecDepth 100000
set_option linter.unusedVariables false
set_option linter.unusedSimpArgs false
/-- The name of the library's table of powers of ten. -/
def powNm : String := Rows.showAllRow.named.headD Rows.showAllRow.func
/-- The library's table is as it is laid, whatever turns from B on. -/
def Tp (B : Nat) (w : World) : Prop := Lib.TabBelow Tryd.prog B w powNm .u64 Lib.pow10Tab
theorem Tp.step {B : Nat} {w w' : World} (h : Tp B w) (hb : Below B w w') : Tp B w' := fun w2 h2 => h w2 (hb.trans h2)
theorem Tp.low {B : Nat} {w w' : World} (h : Tp B w) (hB : B ≤ w.heap.size) (hb : Below w.heap.size w w') : Tp B w' := h.step (hb.mono hB)
theorem dec_sameP (n : Nat) : Lib.decDigits n = L.decL n := by
  induction n using Nat.strongRecOn with
  | ind n ih =>
    by_cases h : n < 10
    · rw [Lib.decDigits, dif_pos h, L.dec_small h]
    · rw [Lib.decDigits, dif_neg h, L.dec_great h, ih (n / 10) (by omega)]
theorem itoa_sameP (n : Int) : Lib.itoa n = xN n := by
  unfold Lib.itoa P.xN
  rw [dec_sameP, dec_sameP]
theorem tab_castP {P : Program} {w : World} {k : IntKind} {zs : List Int} {s s' : String} (h : Lib.TabIs P w s k zs) (e : s = s') : Lib.TabIs P w s' k zs := e ▸ h
theorem itoaP_any {B : Nat} {w : World} (n : Int) (hn : W64 n) (ht : Tp B w) (hB : B ≤ w.heap.size) : Calls Tryd.prog 63 #[.int .i64 n] w (fun e w' => e = .returned (.string (bs (xN n))) ∧ Below w.heap.size w w') := by
  have h1 : Lib.TabIs Tryd.prog w powNm .u64 Lib.pow10Tab := ht.here
  refine (show Calls Tryd.prog 63 #[.int .i64 n] w fun e w' => e = .returned (.string ⟨(Lib.itoa n).toArray⟩) ∧ ∃ k os, w' = Go.Sort.grow (w.drewN k) os from Any.strconv_Itoa Tryd.laysM171 n hn.1 hn.2 w (tab_castP h1 (by kernel_rfl))).mono ?_
  rintro e w' ⟨rfl, k, os, rfl⟩
  rw [itoa_sameP]
  exact ⟨rfl, Lib.below_grow _ w (Nat.le_refl _) k os⟩
end Go.Proofs.YtchokfgffnomoaaDoor.Lx
/-
  How an array of bytes that came in is opened. It proves nothing of Go by itself.
-/
namespace Go.Proofs.YtchokfgffnomoaaDoor.Lx
open Go.RowKit
set_option maxRecDepth 100000
set_option linter.unusedVariables false
theorem cellsU8 : Tryd.prog.cellsOf 5 = 1 := by kernel_rfl
theorem open_u8s {H : Type} {enc : TypeId × Value → H} {W : World} {base : Nat} {spare : Nat → Bool} {held : Bool} {t : TypeId} {n : Nat} {v : Value} {d : DataW H} {p : List MemPlace} (ht : Tryd.prog.underlying t = some (.array n 5)) (hn : Tryd.prog.cellsOf t = n) (hv : Value.okWide Tryd.prog W .any 0 t v) (h : DataW.Trod enc Tryd.prog W base spare held t v d p) :
    ∃ cs : List Value, v = .agg cs.toArray ∧ cs.length = n ∧ ∀ i, i < n → ∃ r : Nat, r < 256 ∧ cs[i]? = some (.int .u8 (r : Nat)) := by
  simp only [Value.okWide, ht] at hv
  obtain ⟨cs, rfl, hsz, _⟩ := hv
  obtain ⟨fuel, hf⟩ := h
  have hcl : (Value.agg cs).cells.toList = cs.toList := by simp [Value.cells]
  rw [hcl] at hf
  obtain ⟨xs, m, _, _, hlen, hxl, hfe⟩ := DataW.trod_array ht hf
  refine ⟨cs.toList, by simp, by rw [hlen, hn], fun i hi => ?_⟩
  have h1 := hfe i hi
  rw [List.getElem?_eq_getElem (by omega), cellsU8, Nat.mul_one] at h1
  obtain ⟨z, hz, _, hw⟩ := DataW.trod_int Tryd.underlying5 h1
  obtain ⟨r, rfl, hr⟩ := byte_of hw
  have hil : i < cs.toList.length := by rw [hlen, hn]; exact hi
  refine ⟨r, hr, ?_⟩
  have h2 : (cs.toList.drop i).take 1 = [cs.toList[i]] := by rw [List.drop_eq_getElem_cons hil]; rfl
  rw [h2] at hz
  rw [List.getElem?_eq_getElem hil]
  exact congrArg some (List.cons.inj hz).1
end Go.Proofs.YtchokfgffnomoaaDoor.Lx
/-
  What the rows' condition on the library's three tables gives the walks of layer 11, that a start meets it, and how their arguments are opened. It proves nothing of Go by itself.
-/
namespace Go.Proofs.YtchokfgffnomoaaDoor.Lx
open Go.ChangeShapes Go.WideShapes Go.ChangeAt Go.RowKit
theorem gPowP : Tryd.prog.globalNamed powNm = some 1 := by kernel_rfl
theorem tPowP : (Tryd.prog.globals[1]?).map (·.type) = some 134 := by kernel_rfl
theorem cPowP : Tryd.prog.cellsOf 134 = 20 := by kernel_rfl
theorem cWordP : Tryd.prog.cellsOf 122 = 1 := by kernel_rfl
/-- The rows' three listed variables. -/
abbrev laid3P : List (String × DataW Unit) := Rows.showAllRow.laid
theorem door3_metP (os : Os) (args : Array Value) : laidMetH Tryd.prog laid3P ((World.doorLaid Tryd.prog 400 os).forCall (fun _ _ => 0) ⟨#[], args, []⟩).memory :=
  laidMetH_of_parts3 (fuel := 8) (laidMet_of_run' 8 (by kernel_rfl) (by kernel_rfl)) (by kernel_rfl) (by kernel_rfl)
theorem laidMet_tailP {P : Program} {W : World} {x : String × DataW Unit} {r : List (String × DataW Unit)} (h : laidMet P (x :: r) W) : laidMet P r W := by
  obtain ⟨n, d⟩ := x
  obtain ⟨ps, ⟨g, t, cs, fuel, p, q, _, _, _, _, h1, rfl⟩, hn, hc⟩ := h
  exact ⟨q, h1, (List.nodup_append.1 hn).2.1, fun b off hb => hc b off (List.mem_append_right _ hb)⟩
theorem laid3_isP : laid3P = laid3P.headD ("", .lit (.bool false)) :: (laid3P.getD 1 ("", .lit (.bool false)) :: [(powNm, Lib.tabData .u64 Lib.pow10Tab)]) := by kernel_rfl
theorem tp_of_laid {W : World} (h : laidMetH Tryd.prog laid3P W) : Tp W.heap.size W := by
  rw [MakeChecks.laidMetH_plain _ _ _ (by kernel_rfl), laid3_isP] at h
  exact Lib.tabBelow_of_tabIs (Lib.tabIs_of_head (name := powNm) (zs := Lib.pow10Tab) (rest := []) gPowP tPowP Tryd.underlying134 Tryd.underlying122 cWordP cPowP (laidMet_tailP (laidMet_tailP h)))
set_option maxRecDepth 100000 in
theorem open_arr6 {H : Type} {enc : TypeId × Value → H} {W : World} {base : Nat} {spare : Nat → Bool} {held : Bool} {v : Value} {d : DataW H} {p : List MemPlace} (hv : Value.okWide Tryd.prog W .any 0 55 v) (h : DataW.Trod enc Tryd.prog W base spare held 55 v d p) : ∃ r0 r1 r2 r3 r4 r5 : Nat, v = .agg #[.int .u8 (r0 : Nat), .int .u8 (r1 : Nat), .int .u8 (r2 : Nat), .int .u8 (r3 : Nat), .int .u8 (r4 : Nat), .int .u8 (r5 : Nat)] ∧ r0 < 256 ∧ r1 < 256 ∧ r2 < 256 ∧ r3 < 256 ∧ r4 < 256 ∧ r5 < 256 := by
  obtain ⟨cs, rfl, hl, hc⟩ := open_u8s Tryd.underlying55 (by kernel_rfl) hv h
  obtain ⟨r0, h0, e0⟩ := hc 0 (by decide)
  obtain ⟨r1, h1, e1⟩ := hc 1 (by decide)
  obtain ⟨r2, h2, e2⟩ := hc 2 (by decide)
  obtain ⟨r3, h3, e3⟩ := hc 3 (by decide)
  obtain ⟨r4, h4, e4⟩ := hc 4 (by decide)
  obtain ⟨r5, h5, e5⟩ := hc 5 (by decide)
  match cs, hl with
  | [a, b, c, d, e, f], _ =>
    simp at e0 e1 e2 e3 e4 e5
    subst e0 e1 e2 e3 e4 e5
    exact ⟨r0, r1, r2, r3, r4, r5, rfl, h0, h1, h2, h3, h4, h5⟩
end Go.Proofs.YtchokfgffnomoaaDoor.Lx
