/-
  What Prog of the document's answer tells, as a contract: a program's text, also of such as may not be.
-/
import Derived.Test.YtihhkppimeagfaaXA
import Derived.Test.YtihhkppimeagfaaQSame
namespace Go.Proofs.Ytihhkppimeagfaa.Lx
open Go.RowKit
open P (EX CO ST PG TX TC TS TSs TI TT TP Bo)
set_option maxRecDepth 100000
set_option linter.unusedVariables false
set_option linter.unusedSimpArgs false
/-- A number's text is told. -/
def DigOk (n : Int) : Prop := ∀ (z : Int) (w : World), z = n → Calls Try.prog 17 #[.int .i64 z] w (TextTo (bs (P.xN n)) w)
/-- A condition's text is told. -/
def CondOk (Q : Nat → Prop) (c : CO) : Prop := ∀ (v : Value) (w : World), LC Q w v c → Calls Try.prog 19 #[v] w (TextTo (bs (P.xC c)) w)
def hdP (nm d : List UInt8) : List UInt8 := ([108, 105, 116, 109, 117, 115] ++ [32]) ++ ((nm ++ [32]) ++ (([118, 97, 108, 117, 101, 115] ++ [32]) ++ (d ++ [10])))
theorem t_head (nm d : List UInt8) : (((⟨#[108, 105, 116, 109, 117, 115, 32]⟩ ++ bs nm) ++ ⟨#[32, 118, 97, 108, 117, 101, 115, 32]⟩) ++ bs d) ++ ⟨#[10]⟩ = bs (hdP nm d) := by
  show (((bs [108, 105, 116, 109, 117, 115, 32] ++ bs nm) ++ bs [32, 118, 97, 108, 117, 101, 115, 32]) ++ bs d) ++ bs [10] = _
  simp only [bs_app]
  simp [hdP]
theorem t_init (o l d : List UInt8) : ((((bs o ++ ⟨#[105, 110, 105, 116, 32]⟩) ++ bs l) ++ ⟨#[32]⟩) ++ bs d) ++ ⟨#[10]⟩ = bs (o ++ (([105, 110, 105, 116] ++ [32]) ++ ((l ++ [32]) ++ (d ++ [10])))) := by
  show ((((bs o ++ bs [105, 110, 105, 116, 32]) ++ bs l) ++ bs [32]) ++ bs d) ++ bs [10] = _
  simp only [bs_app]
  simp
theorem t_thr (o u : List UInt8) : ((bs o ++ ⟨#[116, 104, 114, 101, 97, 100, 32, 123, 10]⟩) ++ bs u) ++ ⟨#[125, 10]⟩ = bs (o ++ (([116, 104, 114, 101, 97, 100] ++ [32]) ++ (([123] ++ [10]) ++ (u ++ ([125] ++ [10]))))) := by
  show ((bs o ++ bs [116, 104, 114, 101, 97, 100, 32, 123, 10]) ++ bs u) ++ bs [125, 10] = _
  simp only [bs_app]
  simp
theorem t_ask (o a : List UInt8) : bs o ++ bs a = bs (o ++ a) := bs_app o a
theorem t_end (o c : List UInt8) : ((bs o ++ ⟨#[32]⟩) ++ bs c) ++ ⟨#[10]⟩ = bs (o ++ ([32] ++ (c ++ [10]))) := by
  show ((bs o ++ bs [32]) ++ bs c) ++ bs [10] = _
  simp only [bs_app]
  simp
theorem xI_take {cs : List CE} {j : Nat} {c : CE} (h : cs[j]? = some c) : P.xI (cs.take (j + 1)) = P.xI (cs.take j) ++ (([105, 110, 105, 116] ++ [32]) ++ ((c.1 ++ [32]) ++ (P.xN c.2 ++ [10]))) := by
  rw [List.take_add_one, h]
  simp [P.xI]
theorem xI_le {cs : List CE} {j : Nat} : (P.xI (cs.take j)).length ≤ (P.xI cs).length := by
  conv => rhs; rw [← List.take_append_drop j cs]
  simp only [P.xI, List.map_append, List.flatten_append, List.length_append]
  omega
theorem xT_take {cs : List (List ST)} {j : Nat} {c : List ST} (h : cs[j]? = some c) : P.xT (cs.take (j + 1)) = P.xT (cs.take j) ++ (([116, 104, 114, 101, 97, 100] ++ [32]) ++ (([123] ++ [10]) ++ (P.xSs c 1 ++ ([125] ++ [10])))) := by
  rw [List.take_add_one, h]
  simp [P.xT]
theorem xT_le {cs : List (List ST)} {j : Nat} : (P.xT (cs.take j)).length ≤ (P.xT cs).length := by
  conv => rhs; rw [← List.take_append_drop j cs]
  simp only [P.xT, List.map_append, List.flatten_append, List.length_append]
  omega
theorem Below.lpg {Q : Nat → Prop} {w w' : World} (hb : Below w.heap.size w w') {v : Value} {p : PG} (h : LPg Q w v p) : LPg Q w' v p := h.below hb
set_option maxHeartbeats 6400000 in
theorem prog_step (Q : Nat → Prop) (p : PG) (hN : (P.xP p).length ≤ 1000000000000) (hV : DigOk p.vals) (hI : ∀ c ∈ p.init, DigOk c.2) (hT : ∀ l ∈ p.threads, LinesOk Q l 1) (hC : CondOk Q p.cond) (v : Value) (w : World) (hv : LPg Q w v p) :
    Calls Try.prog 9 #[v] w (TextTo (bs (P.xP p)) w) := by
  obtain ⟨vi, vt, o, t, s, n, a, m, c, rfl, ⟨a1, c1, rfl, hm1, hr1⟩, ⟨a2, c2, rfl, hm2, hr2⟩, hlc⟩ := hv
  obtain ⟨pn, pvl, pin, pth, pak, pco⟩ := p
  unfold maxLen at hm1 hm2
  simp only at hV hI hT hC hm1 hm2 hr1 hr2 hlc
  have HR1 := Lib.hid hr1
  have HR2 := Lib.hid hr2
  have HL := Lib.hid hlc
  have HV := Lib.hid hV
  have HI := Lib.hid hI
  have HT := Lib.hid hT
  have HC := Lib.hid hC
  have HX := Lib.hid (show P.xP ⟨pn, pvl, pin, pth, pak, pco⟩ = hdP pn (P.xN pvl) ++ (P.xI pin ++ (P.xT pth ++ ((P.xA pak ++ [32]) ++ (P.xC pco ++ [10])))) from rfl)
  have hlen : (P.xP ⟨pn, pvl, pin, pth, pak, pco⟩).length = (hdP pn (P.xN pvl)).length + ((P.xI pin).length + ((P.xT pth).length + ((P.xA pak).length + 1 + ((P.xC pco).length + 1)))) := by
    rw [HX.out]
    simp only [List.length_append, List.length_cons, List.length_nil]
  have hhl : (hdP pn (P.xN pvl)).length = 7 + (pn.length + 1 + (7 + ((P.xN pvl).length + 1))) := by
    simp only [hdP, List.length_append, List.length_cons, List.length_nil]
  have HN := Lib.hid (show (hdP pn (P.xN pvl)).length + ((P.xI pin).length + ((P.xT pth).length + ((P.xA pak).length + 1 + ((P.xC pco).length + 1)))) ≤ 1000000000000 by omega)
  have HH := Lib.hid hhl
  have HTX := Lib.hid (t_head pn (P.xN pvl))
  clear hr1 hr2 hlc hV hI hT hC hN hlen hhl
  show Calls Try.prog 9 #[.agg #[.string (bs pn), .int .i64 pvl, .slice a1 pin.length c1, .slice a2 pth.length c2, .int .i64 pak, .int .i64 o, .int .i64 t, .string s, .int .i64 n, .slice a m c]] w (TextTo (bs (P.xP ⟨pn, pvl, pin, pth, pak, pco⟩)) w)
  rw [HX.out]
  have hs0 : (bs pn).size = pn.length := bs_size _
  have hs1 : (bs (P.xN pvl)).size = (P.xN pvl).length := bs_size _
  generalize bs pn = PN at *
  have HB := Lib.hid (Blk.new w 30 #[.string PN, .int .i64 pvl, .slice a1 pin.length c1, .slice a2 pth.length c2, .int .i64 pak, .int .i64 o, .int .i64 t, .string s, .int .i64 n, .slice a m c])
  have HBL := Lib.hid (show Below w.heap.size w (w.alloc (.cells #[.string PN, .int .i64 pvl, .slice a1 pin.length c1, .slice a2 pth.length c2, .int .i64 pak, .int .i64 o, .int .i64 t, .string s, .int .i64 n, .slice a m c] 30)) from (Below.refl _ _).alloc (Nat.le_refl _) _)
  go_enter Try.func9, Try.ntmps9
  go_upto_region 1 with (fail)
  generalize w.alloc (.cells #[.string PN, .int .i64 pvl, .slice a1 pin.length c1, .slice a2 pth.length c2, .int .i64 pak, .int .i64 o, .int .i64 t, .string s, .int .i64 n, .slice a m c] 30) = W at *
  have hA0 : w.heap.size < W.heap.size := HB.out.lt
  generalize hA1 : w.heap.size = A0 at *
  have HAe := Lib.hid hA1
  clear hA1
  have HDV := Lib.hid (HV.out pvl W.drew rfl)
  have HW7 := Lib.hid (fun (w' : World) (hb : Below W.heap.size W w') => (show w'.cell? ⟨A0, 0, none⟩ = some (.string PN) ∧ w'.cell? ⟨A0, 1, none⟩ = some (.int .i64 pvl) from by
    have hb2 := HB.out.live' hb
    exact ⟨hb2.cell 0, hb2.cell 1⟩))
  have HKS := Lib.hid (HW7.out W (Below.refl _ _))
  have HKD := Lib.hid (HW7.out W.drew (below_one W))
  have hhl := HH.out
  have hnn := HN.out
  generalize bs (P.xN pvl) = D at *
  have z1 : ¬ 9223372036854775807 < 7 + PN.size := by omega
  have z2 : ¬ 9223372036854775807 < 7 + PN.size + 8 := by omega
  have z3 : ¬ 9223372036854775807 < 7 + PN.size + 8 + D.size := by omega
  have z4 : ¬ 9223372036854775807 < 7 + PN.size + 8 + D.size + 1 := by omega
  clear hhl hnn hs0 hs1
  go_region_held3 (fun w' => w'.cell? ⟨A0, 0, none⟩ = some (.string PN) ∧ w'.cell? ⟨A0, 1, none⟩ = some (.int .i64 pvl))
    (first
      | with_reducible exact HKS.out
      | with_reducible exact HKD.out
      | with_reducible assumption
      | go_keep)
    (first
      | (go_at_call 17; (with_reducible refine HDV.out.mono ?_); rintro e w7 ⟨rfl, hb7⟩; have HB7 := Lib.hid ((below_one W).trans (hb7.mono (Nat.le_refl _))); have hS7 := HW7.out w7 HB7.out; clear hb7))
  rw [HTX.out]
  have HB0 := Lib.hid (HB.out.live' HB7.out)
  have HQ0 := Lib.hid (show Below w.heap.size w w7 by
    rw [HAe.out]
    exact HBL.out.trans (HB7.out.mono (by omega)))
  have hl7 : A0 < w7.heap.size := HB0.out.lt
  clear HB HBL HW7 HKS HKD HDV HTX HB7 hS7 z1 z2 z3 z4 hA0
  go_wp2_with fail
  go_loopw [3, 4] (fun sv iv wr => ∃ j : Nat, iv = .int .i64 j ∧ j ≤ pin.length ∧ sv = .string (bs (hdP pn (P.xN pvl) ++ P.xI (pin.take j))) ∧ Below w7.heap.size w7 wr) (fun _ iv _ => pin.length - (intOf iv).toNat)
  case atStart => exact ⟨0, rfl, Nat.zero_le _, by simp [P.xI], Below.refl _ _⟩
  case round =>
    obtain ⟨j, rfl, hj, rfl, hbr⟩ := hrel
    have HBr := Lib.hid (HB0.out.live' hbr)
    have HQr := Lib.hid (HQ0.out.trans (hbr.mono (by rw [HAe.out]; omega)))
    have HBW := Lib.hid hbr
    have hszr := hbr.size
    clear hbr
    have p2 : wr.cell? ⟨A0, 2, none⟩ = some (.slice a1 pin.length c1) := HBr.out.cell 2
    by_cases hlt : j < pin.length
    · rcases HR1.out with hz | ⟨ga, oa, hga, _, hla⟩
      · rw [hz] at hlt
        simp at hlt
      obtain ⟨e1, he1, ha0, ha1⟩ := LEs.at pin hla j hlt
      have hgl : ga < w.heap.size := World.block_lt_of_cell? w _ ha0
      subst hga
      have r0 := (HQr.out.cell (p := ⟨ga, _, none⟩) hgl).trans ha0
      have r1 := (HQr.out.cell (p := ⟨ga, _, none⟩) hgl).trans ha1
      have HDV := Lib.hid (HI.out e1 (List.mem_of_getElem? he1) e1.2 wr.drew rfl)
      have HTX := Lib.hid (show ((((bs (hdP pn (P.xN pvl) ++ P.xI (pin.take j)) ++ ⟨#[105, 110, 105, 116, 32]⟩) ++ bs e1.1) ++ ⟨#[32]⟩) ++ bs (P.xN e1.2)) ++ ⟨#[10]⟩ = bs (hdP pn (P.xN pvl) ++ P.xI (pin.take (j + 1))) by
        rw [t_init, xI_take he1, List.append_assoc])
      have hq : (hdP pn (P.xN pvl)).length + ((P.xI (pin.take j)).length + (5 + (e1.1.length + 1 + ((P.xN e1.2).length + 1)))) ≤ 1000000000000 := by
        have h1 := xI_le (cs := pin) (j := j + 1)
        rw [xI_take he1] at h1
        simp only [List.length_append, List.length_cons, List.length_nil] at h1
        have := HN.out
        omega
      obtain ⟨el, en⟩ := e1
      simp only at r0 r1 HDV HTX hq
      have s1 : (bs (hdP pn (P.xN pvl) ++ P.xI (pin.take j))).size = (hdP pn (P.xN pvl)).length + (P.xI (pin.take j)).length := by rw [bs_size, List.length_append]
      have s2 : (bs el).size = el.length := bs_size _
      have s3 : (bs (P.xN en)).size = (P.xN en).length := bs_size _
      generalize bs (hdP pn (P.xN pvl) ++ P.xI (pin.take j)) = O at *
      generalize bs el = L' at *
      generalize bs (P.xN en) = D at *
      have z1 : ¬ 9223372036854775807 < O.size + 5 := by omega
      have z2 : ¬ 9223372036854775807 < O.size + 5 + L'.size := by omega
      have z3 : ¬ 9223372036854775807 < O.size + 5 + L'.size + 1 := by omega
      have z4 : ¬ 9223372036854775807 < O.size + 5 + L'.size + 1 + D.size := by omega
      have z5 : ¬ 9223372036854775807 < O.size + 5 + L'.size + 1 + D.size + 1 := by omega
      have m1 : (0 : Int) ≤ (j : Int) := by omega
      have m2 : (j : Int) < (pin.length : Int) := by omega
      have hglr : ga < wr.heap.size := World.block_lt_of_cell? wr _ r0
      have hAlr : A0 < wr.heap.size := by omega
      have HK0 : Hid (wr.cell? ⟨A0, 2, none⟩ = some (.slice (some ⟨ga, oa, none⟩) pin.length c1) ∧ wr.cell? ⟨ga, oa + j * 2, none⟩ = some (.string L') ∧ wr.cell? ⟨ga, oa + j * 2 + 1, none⟩ = some (.int .i64 en)) := ⟨p2, r0, r1⟩
      have HK7 : Hid (∀ w', Below wr.heap.size wr w' → w'.cell? ⟨A0, 2, none⟩ = some (.slice (some ⟨ga, oa, none⟩) pin.length c1) ∧ w'.cell? ⟨ga, oa + j * 2, none⟩ = some (.string L') ∧ w'.cell? ⟨ga, oa + j * 2 + 1, none⟩ = some (.int .i64 en)) := fun w' h7 => ⟨(h7.cell (p := ⟨A0, 2, none⟩) hAlr).trans p2, (h7.cell (p := ⟨ga, _, none⟩) hglr).trans r0, (h7.cell (p := ⟨ga, _, none⟩) hglr).trans r1⟩
      have HKD := Lib.hid (HK7.out wr.drew (below_one wr))
      clear hla ha0 ha1 he1 hgl hq s1 s2 s3
      go_wp2_with fail
      go_region_held3 (fun w' => w'.cell? ⟨A0, 2, none⟩ = some (.slice (some ⟨ga, oa, none⟩) pin.length c1) ∧ w'.cell? ⟨ga, oa + j * 2, none⟩ = some (.string L') ∧ w'.cell? ⟨ga, oa + j * 2 + 1, none⟩ = some (.int .i64 en))
        (first
          | with_reducible exact HK0.out
          | with_reducible exact HKD.out
          | with_reducible assumption
          | go_keep)
        (first
          | (go_at_call 17; (with_reducible refine HDV.out.mono ?_); rintro e w8 ⟨rfl, hb8⟩; have HB8 := Lib.hid ((below_one wr).trans (hb8.mono (Nat.le_refl _))); have hS8 := HK7.out w8 HB8.out; clear hb8))
      go_wp2_with fail
      go_roundw
      case rel => exact ⟨j + 1, by go_num, by omega, by rw [← HTX.out], HBW.out.trans (HB8.out.mono (by omega))⟩
      case measure => simp [intOf]; omega
    · have hd1 : decide (j < pin.length) = false := by simpa using hlt
      have hd2 : decide ((j : Int) < (pin.length : Int)) = false := by simpa using hlt
      obtain rfl : j = pin.length := by omega
      rw [List.take_length]
      go_wp2_with fail
      clear hd1 hd2 p2 hlt hj
      have hlr : A0 < wr.heap.size := HBr.out.lt
      generalize wr = wq at *
      clear HB0 HQ0 hl7 HBW hszr
      go_loopw [3, 5] (fun sv iv wr => ∃ k : Nat, iv = .int .i64 k ∧ k ≤ pth.length ∧ sv = .string (bs (hdP pn (P.xN pvl) ++ (P.xI pin ++ P.xT (pth.take k)))) ∧ Below wq.heap.size wq wr) (fun _ iv _ => pth.length - (intOf iv).toNat)
      case atStart => exact ⟨0, rfl, Nat.zero_le _, by simp [P.xT], Below.refl _ _⟩
      case round =>
        obtain ⟨k, rfl, hk, rfl, hbr⟩ := hrel
        have HBz := Lib.hid (HBr.out.live' hbr)
        have HQz := Lib.hid (HQr.out.trans (hbr.mono (by rw [HAe.out]; omega)))
        have HBW := Lib.hid hbr
        have hszr := hbr.size
        clear hbr
        have p3 : wr.cell? ⟨A0, 3, none⟩ = some (.slice a2 pth.length c2) := HBz.out.cell 3
        by_cases hlt : k < pth.length
        · rcases HR2.out with hz | ⟨ga, oa, hga, hqa, hla⟩
          · rw [hz] at hlt
            simp at hlt
          obtain ⟨e1, v1, he1, ha0, hi1⟩ := LTs.at pth hla k hlt
          have hgl : ga < w.heap.size := World.block_lt_of_cell? w _ ha0
          subst hga
          have r0 := (HQz.out.cell (p := ⟨ga, _, none⟩) hgl).trans ha0
          have HIS := Lib.hid (Below.isSs HQz.out hi1)
          have HLN := Lib.hid (HT.out e1 (List.mem_of_getElem? he1) 1 v1 wr rfl HIS.out)
          have HTX := Lib.hid (show ((bs (hdP pn (P.xN pvl) ++ (P.xI pin ++ P.xT (pth.take k))) ++ ⟨#[116, 104, 114, 101, 97, 100, 32, 123, 10]⟩) ++ bs (P.xSs e1 1)) ++ ⟨#[125, 10]⟩ = bs (hdP pn (P.xN pvl) ++ (P.xI pin ++ P.xT (pth.take (k + 1)))) by
            rw [t_thr, xT_take he1, List.append_assoc, List.append_assoc])
          have hq : (hdP pn (P.xN pvl)).length + ((P.xI pin).length + ((P.xT (pth.take k)).length + (9 + ((P.xSs e1 1).length + 2)))) ≤ 1000000000000 := by
            have h1 := xT_le (cs := pth) (j := k + 1)
            rw [xT_take he1] at h1
            simp only [List.length_append, List.length_cons, List.length_nil] at h1
            have := HN.out
            omega
          have s1 : (bs (hdP pn (P.xN pvl) ++ (P.xI pin ++ P.xT (pth.take k)))).size = (hdP pn (P.xN pvl)).length + ((P.xI pin).length + (P.xT (pth.take k)).length) := by rw [bs_size, List.length_append, List.length_append]
          have s3 : (bs (P.xSs e1 1)).size = (P.xSs e1 1).length := bs_size _
          obtain ⟨sa, sca, rfl, hml, _⟩ := hi1
          generalize bs (hdP pn (P.xN pvl) ++ (P.xI pin ++ P.xT (pth.take k))) = O at *
          generalize bs (P.xSs e1 1) = U at *
          have z1 : ¬ 9223372036854775807 < O.size + 9 := by omega
          have z2 : ¬ 9223372036854775807 < O.size + 9 + U.size := by omega
          have z3 : ¬ 9223372036854775807 < O.size + 9 + U.size + 2 := by omega
          have m1 : (0 : Int) ≤ (k : Int) := by omega
          have m2 : (k : Int) < (pth.length : Int) := by omega
          clear hla ha0 he1 hgl hq s1 s3
          go_wp2_with fail
          with_reducible refine HLN.out.mono ?_
          rintro e w8 ⟨rfl, hb8⟩
          have HB8 := Lib.hid (HBW.out.trans (hb8.mono (by omega)))
          clear hb8
          go_wp2_with fail
          go_roundw
          case rel => exact ⟨k + 1, by go_num, by omega, by rw [← HTX.out], HB8.out⟩
          case measure => simp [intOf]; omega
        · have hd1 : decide (k < pth.length) = false := by simpa using hlt
          have hd2 : decide ((k : Int) < (pth.length : Int)) = false := by simpa using hlt
          obtain rfl : k = pth.length := by omega
          rw [List.take_length]
          obtain ⟨⟨x0, x1, x2, x3, x4, x5, x6, x7, x8, x9⟩, _⟩ := ten_free HBz.out
          have HCD := Lib.hid (HC.out _ wr (HL.out.step (fun b hq hl => ⟨hq, HQz.out.block b hl⟩)))
          have hnn := HN.out
          have s1 : (bs (hdP pn (P.xN pvl) ++ (P.xI pin ++ P.xT pth))).size = (hdP pn (P.xN pvl)).length + ((P.xI pin).length + (P.xT pth).length) := by rw [bs_size, List.length_append, List.length_append]
          have s3 : (bs (P.xC pco)).size = (P.xC pco).length := bs_size _
          by_cases k1 : pak = 1
          · subst k1
            have HTX := Lib.hid (show (((bs (hdP pn (P.xN pvl) ++ (P.xI pin ++ P.xT pth)) ++ ⟨#[101, 120, 105, 115, 116, 115]⟩) ++ ⟨#[32]⟩) ++ bs (P.xC pco)) ++ ⟨#[10]⟩ = bs (hdP pn (P.xN pvl) ++ (P.xI pin ++ (P.xT pth ++ ((P.xA 1 ++ [32]) ++ (P.xC pco ++ [10]))))) by
              show (((bs (hdP pn (P.xN pvl) ++ (P.xI pin ++ P.xT pth)) ++ bs [101, 120, 105, 115, 116, 115]) ++ bs [32]) ++ bs (P.xC pco)) ++ bs [10] = _
              simp only [bs_app]
              simp [P.xA, P.askW])
            generalize bs (hdP pn (P.xN pvl) ++ (P.xI pin ++ P.xT pth)) = O at *
            generalize bs (P.xC pco) = C at *
            have z1 : ¬ 9223372036854775807 < O.size + 6 := by omega
            have z2 : ¬ 9223372036854775807 < O.size + 6 + 1 := by omega
            have z3 : ¬ 9223372036854775807 < O.size + 6 + 1 + C.size := by omega
            have z4 : ¬ 9223372036854775807 < O.size + 6 + 1 + C.size + 1 := by omega
            clear hnn s1 s3
            go_wp2_with fail
            with_reducible refine HCD.out.mono ?_
            rintro e w8 ⟨rfl, hb8⟩
            go_wp2_with fail
            go_ret
            exact ⟨by rw [← HTX.out]; rfl, HQz.out.trans (hb8.mono (by rw [HAe.out]; omega))⟩
          · by_cases k2 : pak = 2
            · subst k2
              have HTX := Lib.hid (show (((bs (hdP pn (P.xN pvl) ++ (P.xI pin ++ P.xT pth)) ++ ⟨#[102, 111, 114, 97, 108, 108]⟩) ++ ⟨#[32]⟩) ++ bs (P.xC pco)) ++ ⟨#[10]⟩ = bs (hdP pn (P.xN pvl) ++ (P.xI pin ++ (P.xT pth ++ ((P.xA 2 ++ [32]) ++ (P.xC pco ++ [10]))))) by
                show (((bs (hdP pn (P.xN pvl) ++ (P.xI pin ++ P.xT pth)) ++ bs [102, 111, 114, 97, 108, 108]) ++ bs [32]) ++ bs (P.xC pco)) ++ bs [10] = _
                simp only [bs_app]
                simp [P.xA, P.askW])
              generalize bs (hdP pn (P.xN pvl) ++ (P.xI pin ++ P.xT pth)) = O at *
              generalize bs (P.xC pco) = C at *
              have z1 : ¬ 9223372036854775807 < O.size + 6 := by omega
              have z2 : ¬ 9223372036854775807 < O.size + 6 + 1 := by omega
              have z3 : ¬ 9223372036854775807 < O.size + 6 + 1 + C.size := by omega
              have z4 : ¬ 9223372036854775807 < O.size + 6 + 1 + C.size + 1 := by omega
              clear hnn s1 s3 k1
              go_wp2_with fail
              with_reducible refine HCD.out.mono ?_
              rintro e w8 ⟨rfl, hb8⟩
              go_wp2_with fail
              go_ret
              exact ⟨by rw [← HTX.out]; rfl, HQz.out.trans (hb8.mono (by rw [HAe.out]; omega))⟩
            · have HTX := Lib.hid (show ((bs (hdP pn (P.xN pvl) ++ (P.xI pin ++ P.xT pth)) ++ ⟨#[32]⟩) ++ bs (P.xC pco)) ++ ⟨#[10]⟩ = bs (hdP pn (P.xN pvl) ++ (P.xI pin ++ (P.xT pth ++ ((P.xA pak ++ [32]) ++ (P.xC pco ++ [10]))))) by
                rw [t_end]
                simp [P.xA, k1, k2])
              have e1 : (pak == 1) = false := by simp; omega
              have e2 : (pak == 2) = false := by simp; omega
              generalize bs (hdP pn (P.xN pvl) ++ (P.xI pin ++ P.xT pth)) = O at *
              generalize bs (P.xC pco) = C at *
              have z2 : ¬ 9223372036854775807 < O.size + 1 := by omega
              have z3 : ¬ 9223372036854775807 < O.size + 1 + C.size := by omega
              have z4 : ¬ 9223372036854775807 < O.size + 1 + C.size + 1 := by omega
              clear hnn s1 s3
              go_wp2_with fail
              with_reducible refine HCD.out.mono ?_
              rintro e w8 ⟨rfl, hb8⟩
              go_wp2_with fail
              go_ret
              exact ⟨by rw [← HTX.out]; rfl, HQz.out.trans (hb8.mono (by rw [HAe.out]; omega))⟩
/-- The text of a program that is shown. -/
theorem dig_ok {n : Nat} (h : n ≤ L.top) : DigOk n := fun z w hz => by
  subst hz
  rw [P.xN_nat]
  exact digits_any n w (by unfold L.top at h; omega)
theorem ti_dig {cs : List CE} {t : List UInt8} {b : List Bo} {q : List Nat} (h : TI cs t b q) : ∀ c ∈ cs, DigOk c.2 := by
  induction h with
  | nil => exact fun c hc => by cases hc
  | cons hl hn h ih =>
    intro c hc
    rcases List.mem_cons.1 hc with rfl | hc
    · exact dig_ok hn
    · exact ih c hc
theorem tt_lines (Q : Nat → Prop) {ls : List (List ST)} {t : List UInt8} {b : List Bo} {q : List Nat} (h : TT ls t b q) (hl : t.length ≤ 1000000000000) : ∀ l ∈ ls, LinesOk Q l 1 := by
  induction h with
  | nil => exact fun c hc => by cases hc
  | cons hs h ih =>
    simp only [List.length_append, List.length_cons, List.length_nil] at hl
    intro c hc
    rcases List.mem_cons.1 hc with rfl | hc
    · exact lines_ok Q hs (by omega) (by omega)
    · exact ih (by omega) c hc
theorem prog_text {p : PG} {t : List UInt8} {b : List Bo} {q1 q2 q3 : List Nat} (h : TP p t b q1 q2 q3) (hl : t.length ≤ 1000000000000) (Q : Nat → Prop) (v : Value) (w : World) (hv : LPg Q w v p) :
    Calls Try.prog 9 #[v] w (TextTo (bs t) w) := by
  have he := h.xp
  rw [he] at hl ⊢
  refine prog_step Q p hl ?_ ?_ ?_ ?_ v w hv
  · cases h with
    | mk hn hvv hi ht hk hc => exact dig_ok hvv
  · cases h with
    | mk hn hvv hi ht hk hc => exact ti_dig hi
  · rw [← he] at hl
    cases h with
    | mk hn hvv hi ht hk hc =>
      simp only [List.length_append, List.length_cons, List.length_nil] at hl
      exact tt_lines Q ht (by omega)
  · rw [← he] at hl
    cases h with
    | mk hn hvv hi ht hk hc =>
      simp only [List.length_append, List.length_cons, List.length_nil] at hl
      intro v w hv
      rw [← hc.xc]
      exact cond_text hc Q v w hv (by omega)
end Go.Proofs.Ytihhkppimeagfaa.Lx
