/-
  LexFaults' walk: for any tokens and any byte it returns true, and nothing old turns.
-/
import Derived.Test.YtlnhhfmgciaaeaaLFault
import Derived.Test.YtlnhhfmgciaaeaaLSign
import Derived.Lib.SmallJoins
namespace Go.Proofs.Ytlnhhfmgciaaeaa.Lx
open Go.RowKit
set_option linter.unusedVariables false
set_option linter.unusedSimpArgs false
/-- A byte that begins what may be: a digit, a letter, a blank. -/
def Usual (o : UInt8) : Prop := (48 ≤ (o.toNat : Int) ∧ (o.toNat : Int) ≤ 57) ∨ (65 ≤ (o.toNat : Int) ∧ (o.toNat : Int) ≤ 90) ∨ (97 ≤ (o.toNat : Int) ∧ (o.toNat : Int) ≤ 122) ∨ (o.toNat : Int) = 32 ∨ (o.toNat : Int) = 9 ∨ (o.toNat : Int) = 10 ∨ (o.toNat : Int) = 13
/-- The test's answer. -/
def TestR (o : UInt8) (w0 : World) (c : Value) (wx : World) : Prop := (∃ b : Bool, c = .bool b ∧ (b = true ↔ Usual o)) ∧ wx = w0
theorem testR_of {o : UInt8} {w0 : World} {b : Bool} (h : b = true ↔ Usual o) : TestR o w0 (.bool b) w0 := ⟨⟨b, rfl, h⟩, rfl⟩
theorem conv_const (w : World) : (convert 32 32 (.slice (some ⟨w.heap.size, 0, none⟩) 12 12)).run Try.prog (w.alloc (.cells #[.int .u8 123, .int .u8 125, .int .u8 40, .int .u8 41, .int .u8 59, .int .u8 44, .int .u8 58, .int .u8 61, .int .u8 60, .int .u8 43, .int .u8 45, .int .u8 47] 5)) = .ok (.slice (some ⟨w.heap.size, 0, none⟩) 12 12) (w.alloc (.cells #[.int .u8 123, .int .u8 125, .int .u8 40, .int .u8 41, .int .u8 59, .int .u8 44, .int .u8 58, .int .u8 61, .int .u8 60, .int .u8 43, .int .u8 45, .int .u8 47] 5 (12, 13))) :=
  Lib.run_convert_bytes_const w 32 5 tCells 12 12 Try.underlying32 Try.underlying5
theorem fault_step {len N i : Nat} {T P : ByteArray} {w0 w2 : World} {pv : Value} (hlt : i + 1 < len) (hT : T.size ≤ 4 + 20 * i) (hPz : P.size ≤ 19) (hPc : Clean P) (hTc : Clean T) (hb : Below w0.heap.size w0 w2) (hph : Phase N (i + 2) (T ++ P ++ ⟨#[32]⟩) pv) : FaultR len N w0 (.string (T ++ P ++ ⟨#[32]⟩)) pv (.int .i64 ((i : Int) + 2)) w2 := by
  refine ⟨i + 2, T ++ P ++ ⟨#[32]⟩, rfl, by go_num, by omega, ?_, (hTc.app hPc).app clean1, hb, hph⟩
  rw [ByteArray.size_append', ByteArray.size_append']
  show T.size + P.size + 1 ≤ _
  omega
theorem phase_more {N i : Nat} {T P : ByteArray} {pv : Value} (h : Phase N i T pv) (hi : ¬ i / 2 = N) (hP : ∀ T ts, Brings T ts → ∃ us, Brings (T ++ P ++ ⟨#[32]⟩) us) : Phase N (i + 2) (T ++ P ++ ⟨#[32]⟩) pv := by
  rcases h with ⟨h1, h2, ts, h3⟩ | ⟨h1, p, h2, h3⟩
  · exact .inl ⟨h1, by omega, hP T ts h3⟩
  · exact .inr ⟨by omega, p, h2, (h3.app _).app _⟩
theorem phase_at {N i : Nat} {T : ByteArray} {pv : Value} (h : Phase N i T pv) (hi : i / 2 = N) : pv = .int .i64 (-1) ∧ ∃ ts, Brings T ts := by
  rcases h with ⟨h1, _, h2⟩ | ⟨h1, _⟩
  · exact ⟨h1, h2⟩
  · omega
theorem eq_bool {a b : Int} {x : Bool} (h : (a == b) = x) : (x = true ↔ a = b) := by
  subst h
  simp
set_option maxRecDepth 100000 in
set_option maxHeartbeats 8000000 in
theorem faults_byte (a : Option Addr) (len cap : Nat) (xs : List Nat) (o : UInt8) (at' : Nat) (w : World) (hx : IsBytes w a len xs) (ha : at' < 256) : Calls Try.prog 6 #[.slice a len cap, .int .u8 (o.toNat : Nat), .int .u8 (at' : Nat)] w (BoolTo true w) := by
  have hlm := hx.2.1
  have HX := Lib.hid hx
  have ho : o.toNat < 256 := o.toNat_lt
  clear hx
  by_cases hl : len ≤ 60
  · have e1 : decide ((60 : Int) < (len : Int)) = false := by simp; omega
    go_enter Try.func6, Try.ntmps6
    go_wp2_with fail
    with_reducible refine (begun_any _).mono ?_
    rintro e w0 ⟨rfl, hb0⟩
    have HX0 := Lib.hid (HX.out.below hb0)
    have HB0 := Lib.hid hb0
    clear hb0 HX
    go_upto_region 5 with (fail)
    go_cut [61] (fun c wx => TestR o w0 c wx)
    case first =>
      have hq : ((((o.toNat : Nat) : Int) == 32) = true) ∨ ((((o.toNat : Nat) : Int) == 32) = false ∧ (((o.toNat : Nat) : Int) == 9) = true) ∨ ((((o.toNat : Nat) : Int) == 32) = false ∧ (((o.toNat : Nat) : Int) == 9) = false ∧ (((o.toNat : Nat) : Int) == 10) = true) ∨ ((((o.toNat : Nat) : Int) == 32) = false ∧ (((o.toNat : Nat) : Int) == 9) = false ∧ (((o.toNat : Nat) : Int) == 10) = false ∧ (((o.toNat : Nat) : Int) == 13) = true) ∨ ((((o.toNat : Nat) : Int) == 32) = false ∧ (((o.toNat : Nat) : Int) == 9) = false ∧ (((o.toNat : Nat) : Int) == 10) = false ∧ (((o.toNat : Nat) : Int) == 13) = false) := by
        cases (((o.toNat : Nat) : Int) == 32) <;> cases (((o.toNat : Nat) : Int) == 9) <;> cases (((o.toNat : Nat) : Int) == 10) <;> cases (((o.toNat : Nat) : Int) == 13) <;> simp
      rcases hq with q1 | ⟨q1, q2⟩ | ⟨q1, q2, q3⟩ | ⟨q1, q2, q3, q4⟩ | ⟨q1, q2, q3, q4⟩
      · have R := Lib.hid (show ((o.toNat : Nat) : Int) = 32 by simpa using q1)
        go_wp2_with fail
        all_goals
          go_meet
          case rel =>
            refine testR_of ?_
            have r := R.out
            unfold Usual
            first | (simp only [true_iff]; omega) | (simp only [Bool.false_eq_true, false_iff]; omega) | (simp only [decide_eq_true_eq]; omega) | (simp only [true_iff, iff_true, Bool.false_eq_true, false_iff, iff_false, decide_eq_true_eq, Bool.and_eq_true, Bool.or_eq_true]; omega)
      · have R := Lib.hid (show ((o.toNat : Nat) : Int) = 9 by simpa using q2)
        go_wp2_with fail
        all_goals
          go_meet
          case rel =>
            refine testR_of ?_
            have r := R.out
            unfold Usual
            first | (simp only [true_iff]; omega) | (simp only [Bool.false_eq_true, false_iff]; omega) | (simp only [decide_eq_true_eq]; omega) | (simp only [true_iff, iff_true, Bool.false_eq_true, false_iff, iff_false, decide_eq_true_eq, Bool.and_eq_true, Bool.or_eq_true]; omega)
      · have R := Lib.hid (show ((o.toNat : Nat) : Int) = 10 by simpa using q3)
        go_wp2_with fail
        all_goals
          go_meet
          case rel =>
            refine testR_of ?_
            have r := R.out
            unfold Usual
            first | (simp only [true_iff]; omega) | (simp only [Bool.false_eq_true, false_iff]; omega) | (simp only [decide_eq_true_eq]; omega) | (simp only [true_iff, iff_true, Bool.false_eq_true, false_iff, iff_false, decide_eq_true_eq, Bool.and_eq_true, Bool.or_eq_true]; omega)
      · have R := Lib.hid (show ((o.toNat : Nat) : Int) = 13 by simpa using q4)
        go_wp2_with fail
        all_goals
          go_meet
          case rel =>
            refine testR_of ?_
            have r := R.out
            unfold Usual
            first | (simp only [true_iff]; omega) | (simp only [Bool.false_eq_true, false_iff]; omega) | (simp only [decide_eq_true_eq]; omega) | (simp only [true_iff, iff_true, Bool.false_eq_true, false_iff, iff_false, decide_eq_true_eq, Bool.and_eq_true, Bool.or_eq_true]; omega)
      · have R := Lib.hid (show ¬ ((o.toNat : Nat) : Int) = 32 ∧ ¬ ((o.toNat : Nat) : Int) = 9 ∧ ¬ ((o.toNat : Nat) : Int) = 10 ∧ ¬ ((o.toNat : Nat) : Int) = 13 from ⟨by simpa using q1, by simpa using q2, by simpa using q3, by simpa using q4⟩)
        go_wp2_with fail
        all_goals
          go_meet
          case rel =>
            refine testR_of ?_
            have r := R.out
            unfold Usual
            first | (simp only [true_iff]; omega) | (simp only [Bool.false_eq_true, false_iff]; omega) | (simp only [decide_eq_true_eq]; omega) | (simp only [true_iff, iff_true, Bool.false_eq_true, false_iff, iff_false, decide_eq_true_eq, Bool.and_eq_true, Bool.or_eq_true]; omega)
    case rest =>
      obtain ⟨⟨c, rfl, hc⟩, rfl⟩ := hcut
      cases c with
      | true =>
        go_wp2_with fail
        go_ret
        exact ⟨rfl, HB0.out⟩
      | false =>
        have HU := Lib.hid (show ¬ Usual o from fun h => by simpa using hc.2 h)
        clear hc
        have hcs := conv_const wc
        go_wp2_with fail
        have hcl : ∀ j, j < 12 → (wc.alloc (.cells #[.int .u8 123, .int .u8 125, .int .u8 40, .int .u8 41, .int .u8 59, .int .u8 44, .int .u8 58, .int .u8 61, .int .u8 60, .int .u8 43, .int .u8 45, .int .u8 47] 5 (12, 13))).cell? ⟨wc.heap.size, j, none⟩ = some (.int .u8 ((tAt j).toNat : Nat)) := fun j hj => (World.cell?_alloc_mark wc tCells 5 (12, 13) j).trans (t_cell j hj)
        have hbel : Below wc.heap.size wc (wc.alloc (.cells #[.int .u8 123, .int .u8 125, .int .u8 40, .int .u8 41, .int .u8 59, .int .u8 44, .int .u8 58, .int .u8 61, .int .u8 60, .int .u8 43, .int .u8 45, .int .u8 47] 5 (12, 13))) := (Below.refl _ _).alloc (Nat.le_refl _) _
        generalize wc.alloc (.cells #[.int .u8 123, .int .u8 125, .int .u8 40, .int .u8 41, .int .u8 59, .int .u8 44, .int .u8 58, .int .u8 61, .int .u8 60, .int .u8 43, .int .u8 45, .int .u8 47] 5 (12, 13)) = w1 at *
        have HCL := Lib.hid hcl
        have HX1 := Lib.hid (HX0.out.below hbel)
        have HB1 := Lib.hid (HB0.out.trans (hbel.mono HB0.out.size))
        clear hcl hbel hcs HX0 HB0
        go_loop [65] (fun t => TwR o t) (fun t => 12 - (intOf t).toNat)
        case atStart => exact ⟨0, rfl, by omega, fun i hi => absurd hi (by omega)⟩
        case round =>
          obtain ⟨j, rfl, hj, hno⟩ := hrel
          have HNO := Lib.hid hno
          clear hno
          by_cases hjl : j < 12
          · have c1 := HCL.out j hjl
            by_cases hq : tAt j = o
            · have q1 : (((o.toNat : Nat) : Int) == (((tAt j).toNat : Nat) : Int)) = true := by rw [hq]; simp
              have q2 : (o.toNat == (tAt j).toNat) = true := by rw [hq]; simp
              clear hq
              go_wp2_with fail
              go_ret
              exact ⟨rfl, HB1.out⟩
            · have HMO := Lib.hid (twR_more hjl HNO.out hq)
              have hq' : (o == tAt j) = false := by simpa using fun e => hq e.symm
              have q1 : (((o.toNat : Nat) : Int) == (((tAt j).toNat : Nat) : Int)) = false := by rw [nat_beq]; exact hq'
              have q2 : (o.toNat == (tAt j).toNat) = false := by
                rw [← hq', Bool.eq_iff_iff]
                simp [UInt8.toNat_inj]
              clear hq hq'
              go_wp2_with fail
              go_round
              case rel => exact HMO.out
              case measure => simp [intOf]; omega
          · have HOD := Lib.hid (odd_of HU.out (t_all fun i hi => HNO.out i (by omega)))
            clear HNO HU HCL
            have nz1 : ¬ (len : Int) / 2 + 1 = 0 := by omega
            have nz2 : ¬ len / 2 + 1 = 0 := by omega
            go_wp2_with fail
            obtain ⟨N, hN⟩ : ∃ N : Nat, (at' : Int) % ((len : Int) / 2 + 1) = (N : Int) := ⟨at' % (len / 2 + 1), rfl⟩
            rw [hN]
            clear hN nz1 nz2 hj hjl
            have HCV := Lib.hid (fun w => conv_one w (o.toNat : Int) o rfl)
            have hOz : (bs [o]).size ≤ 1 := by rw [bs_size]; simp
            have HOC := Lib.hid (odd_clean HOD.out)
            have HPT := Lib.hid (fun T ts (h : Brings T ts) => h.odd HOD.out)
            generalize bs [o] = OD at *
            go_loopw [9, 10, 12] (fun tv pv iv wr => FaultR len N w1 tv pv iv wr) (fun _ _ iv _ => 100 - (intOf iv).toNat)
            case atStart => exact ⟨0, ⟨#[]⟩, rfl, rfl, by omega, by decide, fun b hb => absurd hb (by simp [by']), Below.refl _ _, .inl ⟨rfl, by omega, [], fun r => by rw [L.pre_nil]; rfl⟩⟩
            case round =>
              obtain ⟨i, T, rfl, rfl, hi, hT, hcl, hbel, hph⟩ := hrel
              have HCL := Lib.hid hcl
              have HBE := Lib.hid (HB1.out.trans (hbel.mono HB1.out.size))
              have HBL := Lib.hid hbel
              have hsz := hbel.size
              clear hcl
              by_cases hlt : i + 1 < len
              · have hxr := HX1.out.below hbel
                obtain ⟨b, off, rfl, hc⟩ := hxr.at (by omega)
                have c1 := hc i (by omega)
                have c2 := hc (i + 1) hlt
                have x1 := hxr.2.2.1 i
                have x2 := hxr.2.2.1 (i + 1)
                have hbl : b < wr.heap.size := World.block_lt_of_cell? wr _ c1
                clear hc hxr hbel
                generalize xs.getD i 0 = x at *
                generalize xs.getD (i + 1) 0 = y at *
                have HPC := Lib.hid (pc_piece x y x2)
                have hpl : (bs (pcT x y)).size ≤ 19 := by rw [bs_size]; exact pc_len x y x2
                have HPN := Lib.hid (pc_clean x y x2)
                have HM := Lib.hid (show ∀ T ts, Brings T ts → ∃ us, Brings (T ++ bs (pcT x y) ++ ⟨#[32]⟩) us from fun T ts h => ⟨_, h.more blank1 (pc_piece x y x2) _ rfl⟩)
                have HP := Lib.hid (fun w => piece_any x y w x1 x2)
                have d1 : decide ((i : Int) + 1 < (len : Int)) = true := by simp; omega
                have n1 : (0 : Int) ≤ (i : Int) := by omega
                have n2 : (i : Int) < (len : Int) := by omega
                have n3 : (0 : Int) ≤ (i : Int) + 1 := by omega
                have n4 : (i : Int) + 1 < (len : Int) := by omega
                have n5 : ((i : Int) + 1).toNat = i + 1 := by omega
                by_cases hiN : i / 2 = N
                · obtain ⟨rfl, ts, hBr⟩ := phase_at hph hiN
                  have HRF := Lib.hid (HPT.out T ts hBr)
                  clear hph hBr
                  have d2 : ((i : Int) / 2 == (N : Int)) = true := by simp; omega
                  have s1 : ¬ T.size + OD.size > 9223372036854775807 := by omega
                  have s2 : ¬ T.size + OD.size + 1 > 9223372036854775807 := by omega
                  have hcv := HCV.out
                  go_wp2_with fail
                  have hb8 : Below wr.heap.size wr (wr.alloc (.cells #[.int .u8 ((o.toNat : Nat) : Int)] 5)) := (Below.refl _ _).alloc (Nat.le_refl _) _
                  generalize wr.alloc (.cells #[.int .u8 ((o.toNat : Nat) : Int)] 5) = wq at *
                  have HBQ := Lib.hid (HBL.out.trans (hb8.mono hsz))
                  have hszq := hb8.size
                  replace c1 := (hb8.cell (p := ⟨b, off + i, none⟩) hbl).trans c1
                  replace c2 := (hb8.cell (p := ⟨b, off + (i + 1), none⟩) hbl).trans c2
                  have hbq : b < wq.heap.size := by omega
                  have hTq : (T ++ OD ++ ⟨#[32]⟩ : ByteArray).size ≤ T.size + 2 := by
                    rw [ByteArray.size_append', ByteArray.size_append']
                    show T.size + OD.size + 1 ≤ _
                    omega
                  have HCQ := Lib.hid ((HCL.out.app HOC.out).app clean1)
                  have HRQ := Lib.hid (HRF.out.app ⟨#[32]⟩)
                  have HCQ' := Lib.hid (show Clean (T ++ OD ++ ⟨#[32]⟩) from HCQ.out)
                  clear hb8 hcv s1 s2 HCQ
                  generalize (T ++ OD ++ ⟨#[32]⟩ : ByteArray) = Tq at *
                  have s3 : ¬ Tq.size + (bs (pcT x y)).size > 9223372036854775807 := by omega
                  have s4 : ¬ Tq.size + (bs (pcT x y)).size + 1 > 9223372036854775807 := by omega
                  have HK0 : Hid (wq.cell? ⟨b, off + i, none⟩ = some (.int .u8 (x : Nat)) ∧ wq.cell? ⟨b, off + (i + 1), none⟩ = some (.int .u8 (y : Nat))) := ⟨c1, c2⟩
                  have HK7 : Hid (∀ w7, Below wq.heap.size wq w7 → w7.cell? ⟨b, off + i, none⟩ = some (.int .u8 (x : Nat)) ∧ w7.cell? ⟨b, off + (i + 1), none⟩ = some (.int .u8 (y : Nat))) := fun w7 h7 => ⟨(h7.cell (p := ⟨b, off + i, none⟩) hbq).trans c1, (h7.cell (p := ⟨b, off + (i + 1), none⟩) hbq).trans c2⟩
                  have n6 : IntKind.i64.wrap ((i : Int) + 1) = (i : Int) + 1 := IntWalk.i64_in _ (by omega)
                  go_region_held3 (fun w' => w'.cell? ⟨b, off + i, none⟩ = some (.int .u8 (x : Nat)) ∧ w'.cell? ⟨b, off + (i + 1), none⟩ = some (.int .u8 (y : Nat)))
                    (first
                      | exact HK0.out
                      | assumption
                      | go_keep)
                    (first
                      | (go_at_call 16; refine (HP.out _).mono ?_; rintro e w7 ⟨rfl, hb7⟩; have hb7' := (below_drewN (Below.refl _ _) 1).trans hb7; have hS7 := HK7.out w7 hb7'; clear hb7))
                  clear n6 hS7
                  have HB7 := Lib.hid (HBQ.out.trans (hb7'.mono HBQ.out.size))
                  clear hb7'
                  generalize hPP : bs (pcT x y) = P at *
                  clear hPP
                  go_wp2_with fail
                  go_roundw
                  case rel => exact fault_step hlt (by omega) hpl HPN.out HCQ'.out HB7.out (.inr ⟨by omega, _, rfl, (HRQ.out.app _).app _⟩)
                  case measure => simp [intOf]; omega
                · have d2 : ((i : Int) / 2 == (N : Int)) = false := by simp; omega
                  have hTq : T.size ≤ T.size + 2 := by omega
                  have s3 : ¬ T.size + (bs (pcT x y)).size > 9223372036854775807 := by omega
                  have s4 : ¬ T.size + (bs (pcT x y)).size + 1 > 9223372036854775807 := by omega
                  have hbq := hbl
                  have HBQ := HBL
                  have HPH := Lib.hid hph
                  have HPH2 := Lib.hid (fun P hP => phase_more (P := P) hph hiN hP)
                  clear hph
                  go_wp2_with fail
                  generalize hwq : wr = wq at *
                  clear hwq
                  have HK0 : Hid (wq.cell? ⟨b, off + i, none⟩ = some (.int .u8 (x : Nat)) ∧ wq.cell? ⟨b, off + (i + 1), none⟩ = some (.int .u8 (y : Nat))) := ⟨c1, c2⟩
                  have HK7 : Hid (∀ w7, Below wq.heap.size wq w7 → w7.cell? ⟨b, off + i, none⟩ = some (.int .u8 (x : Nat)) ∧ w7.cell? ⟨b, off + (i + 1), none⟩ = some (.int .u8 (y : Nat))) := fun w7 h7 => ⟨(h7.cell (p := ⟨b, off + i, none⟩) hbq).trans c1, (h7.cell (p := ⟨b, off + (i + 1), none⟩) hbq).trans c2⟩
                  have n6 : IntKind.i64.wrap ((i : Int) + 1) = (i : Int) + 1 := IntWalk.i64_in _ (by omega)
                  go_region_held3 (fun w' => w'.cell? ⟨b, off + i, none⟩ = some (.int .u8 (x : Nat)) ∧ w'.cell? ⟨b, off + (i + 1), none⟩ = some (.int .u8 (y : Nat)))
                    (first
                      | exact HK0.out
                      | assumption
                      | go_keep)
                    (first
                      | (go_at_call 16; refine (HP.out _).mono ?_; rintro e w7 ⟨rfl, hb7⟩; have hb7' := (below_drewN (Below.refl _ _) 1).trans hb7; have hS7 := HK7.out w7 hb7'; clear hb7))
                  clear n6 hS7
                  have HB7 := Lib.hid (HBQ.out.trans (hb7'.mono HBQ.out.size))
                  clear hb7'
                  generalize hPP : bs (pcT x y) = P at *
                  clear hPP
                  go_wp2_with fail
                  go_roundw
                  case rel => exact fault_step hlt (by omega) hpl HPN.out HCL.out HB7.out (HPH2.out _ HM.out)
                  case measure => simp [intOf]; omega
              · have d1 : decide ((i : Int) + 1 < (len : Int)) = false := by simp; omega
                rcases hph with ⟨rfl, _, ts, hBr⟩ | ⟨_, p, rfl, hRf⟩
                · have HRF := Lib.hid (HPT.out T ts hBr)
                  have hXz : (T ++ OD).size ≤ 2000 := by rw [ByteArray.size_append']; omega
                  have HLB := Lib.hid (HRF.out.all (by omega))
                  have HLO := Lib.hid (clean_all (HCL.out.app HOC.out) (by omega))
                  have s1 : ¬ T.size + OD.size > 9223372036854775807 := by omega
                  have s5 : ¬ 2 + (T.size + OD.size) > 9223372036854775807 := by omega
                  have hcv := HCV.out
                  clear hBr hbel
                  go_wp2_with fail
                  have HEX := Lib.hid (HBE.out.alloc HBE.out.size (.cells #[.int .u8 ((o.toNat : Nat) : Int)] 5))
                  generalize wr.alloc (.cells #[.int .u8 ((o.toNat : Nat) : Int)] 5) = wx at *
                  generalize hp : T.size = p at *
                  clear hp hcv
                  generalize T ++ OD = X at *
                  have s6 : ¬ 2 + X.size > 9223372036854775807 := by omega
                  have Q1 := Lib.hid (eqFlt_self 2 (p : Int))
                  have Q2 := Lib.hid (eqFlt_self 0 0)
                  with_reducible refine (lex_no X _ p 2 p _ HLB.out rfl rfl).mono ?_
                  rintro e w2 ⟨a2, cap2, rfl, hb2⟩
                  have HE2 := Lib.hid (HEX.out.trans (hb2.mono HEX.out.size))
                  have hsz2 := HE2.out.size
                  clear hb2
                  go_wp2_with fail
                  with_reducible refine (lex_ok _ _ _ HLO.out).mono ?_
                  rintro e w3 ⟨v3, rfl, ho3, hb3⟩
                  have hB3 : Blk w3 w2.heap.size 26 #[.int .i64 2, .int .i64 (p : Nat)] := (Blk.new w2 _ _).below hb3 (by simp)
                  obtain ⟨p0, p1, f0, f1⟩ := two_cells hB3
                  have hlt3 := hB3.lt
                  have HE3 := Lib.hid ((HE2.out.alloc hsz2 (.cells #[.int .i64 2, .int .i64 (p : Nat)] 26)).trans (hb3.mono (by simp; omega)))
                  have hsz3 := HE3.out.size
                  clear hb3 hB3 ho3 f0 f1
                  have q1 := Q1.out
                  have q2 := Q2.out
                  go_wp2_with fail
                  go_ret
                  exact ⟨rfl, HE3.out.alloc hsz3 _⟩
                · have HLB := Lib.hid (hRf.all (by omega))
                  have HLO := Lib.hid (clean_all HCL.out (by omega))
                  have s6 : ¬ 2 + T.size > 9223372036854775807 := by omega
                  have d2 : decide ((p : Int) < 0) = false := by simp
                  have HEX := HBE
                  clear hRf hbel
                  go_wp2_with fail
                  generalize hTX : T = X at *
                  clear hTX
                  have Q1 := Lib.hid (eqFlt_self 2 (p : Int))
                  have Q2 := Lib.hid (eqFlt_self 0 0)
                  with_reducible refine (lex_no X _ p 2 p _ HLB.out rfl rfl).mono ?_
                  rintro e w2 ⟨a2, cap2, rfl, hb2⟩
                  have HE2 := Lib.hid (HEX.out.trans (hb2.mono HEX.out.size))
                  have hsz2 := HE2.out.size
                  clear hb2
                  go_wp2_with fail
                  with_reducible refine (lex_ok _ _ _ HLO.out).mono ?_
                  rintro e w3 ⟨v3, rfl, ho3, hb3⟩
                  have hB3 : Blk w3 w2.heap.size 26 #[.int .i64 2, .int .i64 (p : Nat)] := (Blk.new w2 _ _).below hb3 (by simp)
                  obtain ⟨p0, p1, f0, f1⟩ := two_cells hB3
                  have hlt3 := hB3.lt
                  have HE3 := Lib.hid ((HE2.out.alloc hsz2 (.cells #[.int .i64 2, .int .i64 (p : Nat)] 26)).trans (hb3.mono (by simp; omega)))
                  have hsz3 := HE3.out.size
                  clear hb3 hB3 ho3 f0 f1
                  have q1 := Q1.out
                  have q2 := Q2.out
                  go_wp2_with fail
                  go_ret
                  exact ⟨rfl, HE3.out.alloc hsz3 _⟩
  · have e1 : decide ((60 : Int) < (len : Int)) = true := by simp; omega
    go_enter Try.func6, Try.ntmps6
    go_wp2_with fail
    with_reducible refine (begun_any _).mono ?_
    rintro e w0 ⟨rfl, hb0⟩
    go_wp2_with fail
    go_ret
    exact ⟨rfl, hb0⟩
theorem faults_law (a : Option Addr) (len cap : Nat) (xs : List Nat) (o at' : Nat) (w : World) (hx : IsBytes w a len xs) (ho : o < 256) (ha : at' < 256) : Calls Try.prog 6 #[.slice a len cap, .int .u8 (o : Nat), .int .u8 (at' : Nat)] w (BoolTo true w) := by
  obtain ⟨b, rfl⟩ : ∃ b : UInt8, b.toNat = o := ⟨UInt8.ofNat o, by rw [UInt8.toNat_ofNat']; omega⟩
  exact faults_byte a len cap xs b at' w hx ha
end Go.Proofs.Ytlnhhfmgciaaeaa.Lx
