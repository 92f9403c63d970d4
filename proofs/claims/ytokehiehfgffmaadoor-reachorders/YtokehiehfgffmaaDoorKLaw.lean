/-
  What 'hasLoop' and 'order' of the statements of layer 3 tell, as contracts.
-/
import Derived.Test.YtokehiehfgffmaaDoorKRef2
import Derived.Deep.AppendLies
namespace Go.Proofs.YtokehiehfgffmaaDoor
open Go.RowKit
set_option linter.unusedVariables false
set_option linter.unusedSimpArgs false

def LoopR (xs : List Nat) (w0 : World) (k : Value) (w : World) : Prop := ∃ j : Nat, j ≤ xs.length ∧ k = .int .i64 j ∧ w = w0
theorem bit_off (s i : Nat) (hs : s < 2 ^ 64) (h : s.testBit i = false) : bits BinOp.and IntKind.u64 ((s : Int) / 2 ^ i) 1 = 0 := by
  have e : ((s : Int) / 2 ^ i) = ((s / 2 ^ i : Nat) : Int) := by simp
  have hlt : s / 2 ^ i < 2 ^ 64 := Nat.lt_of_le_of_lt (Nat.div_le_self _ _) hs
  have := bits_and_u64_nat (s / 2 ^ i) 1 hlt (by decide)
  rw [e]
  have e1 : ((1 : Nat) : Int) = 1 := rfl
  rw [e1] at this
  rw [this]
  rw [Nat.testBit_eq_decide_div_mod_eq] at h
  have h2 : s / 2 ^ i % 2 ≠ 1 := by simpa using h
  have h3 : s / 2 ^ i &&& 1 = s / 2 ^ i % 2 := Nat.and_one_is_mod _
  rw [h3]
  have := Nat.mod_lt (s / 2 ^ i) (show 0 < 2 by decide)
  omega
set_option maxHeartbeats 400000 in
theorem hasLoop_no (a : Option Addr) (len cap : Nat) (xs : List Nat) (w : World) (hx : IsWords w a len xs) (hl : len ≤ 64) (hno : ∀ i, ¬ bf xs i i) :
    Calls Tryd.prog 34 #[.slice a len cap] w fun e w' => e = .returned (.bool false) ∧ w = w' := by
  obtain rfl : xs.length = len := hx.1
  have HNO := Lib.hid hno
  clear hno
  go_enter Tryd.func34, Tryd.ntmps34
  go_wp2
  go_loopw [3] (fun k wr => LoopR xs w k wr) (fun k _ => xs.length - (intOf k).toNat)
  case atStart => exact ⟨0, Nat.zero_le _, rfl, rfl⟩
  case round =>
    obtain ⟨j, hj, rfl, rfl⟩ := hrel
    by_cases hjl : j < xs.length
    · obtain ⟨b, off, rfl, hc⟩ := hx.at (by omega)
      have cj := hc j hjl
      have hwj := hx.2.2.1 j
      have hb : (R.row xs j).testBit j = false := by
        have := HNO.out j
        simpa [bf] using this
      have e3 := bit_off (R.row xs j) j hwj hb
      have i1 : (0 : Int) ≤ (j : Int) := by omega
      have i2 : (j : Int) < (xs.length : Int) := by omega
      have f1 : IntKind.u64.wrap (j : Int) = (j : Int) := by rw [IntKind.wrap_u64]; omega
      have f2 : (j : Int).toNat = j := by omega
      have f4 : (j : Int) < 64 := by omega
      have HX := Lib.hid hx
      clear hc hx hb
      go_wp2
      go_roundw
      case rel => exact ⟨j + 1, by omega, by go_num, rfl⟩
      case measure => simp [intOf]; omega
    · obtain rfl : j = xs.length := by omega
      go_wp2
      go_ret
      exact ⟨rfl, rfl⟩

/-! ### the order, by the documents -/
def lenOf : Value → Nat
  | .slice _ n _ => n
  | _ => 0
theorem own_form {w : World} {base : Nat} {t : TypeId} {size n : Nat} {v : Value} {xs : List Value} (h : w.ownsRow base t size v n xs) : ∃ a c, v = .slice a n c := by
  rcases h.2 with ⟨rfl, rfl⟩ | ⟨g, cap, cur, rfl, _⟩
  · exact ⟨none, 0, rfl⟩
  · exact ⟨_, _, rfl⟩
/-- What a round of order leaves. -/
def LOrdR (n : Nat) (xs : List Nat) (w0 : World) (v d : Value) (w : World) : Prop :=
  ∃ (l : List Nat) (D L f : Nat) (a : Option Addr) (c : Nat), v = .slice a l.length c ∧ d = .int .u64 (D : Nat) ∧ w.ownsRow w0.heap.size 3 1 (.slice a l.length c) l.length (ints (ci l)) ∧ Below w0.heap.size w0 w ∧ D < 2 ^ 64 ∧ (∀ x, D.testBit x = true ↔ x ∈ l) ∧ OInv n xs l L ∧ M.cnt L ≤ f ∧ peelO xs f L l = ordEnd xs
/-- What a round of the search for the next one leaves. -/
def LMidR (n : Nat) (xs : List Nat) (L : Nat) (wo : World) (nx i : Value) (w : World) : Prop :=
  ∃ j : Nat, j ≤ n ∧ i = .int .i64 j ∧ ((nx = .int .i64 (-1) ∧ ∀ k, k < j → (freeN xs L).testBit k = false) ∨ (nx = .int .i64 (nextN xs L : Nat) ∧ freeN xs L ≠ 0)) ∧ w = wo
def FreeTo (xs : List Nat) (L j k : Nat) (b : Bool) : Prop := b = true ↔ L.testBit j = true ∧ ∀ i, i < k → L.testBit i = true → ¬ bf xs i j
def LInR (n : Nat) (xs : List Nat) (L j : Nat) (wo : World) (fr k : Value) (w : World) : Prop :=
  ∃ (m : Nat) (b : Bool), m ≤ n ∧ k = .int .i64 m ∧ fr = .bool b ∧ FreeTo xs L j m b ∧ w = wo
theorem FreeTo.skip {xs : List Nat} {L j k : Nat} {b : Bool} (h : FreeTo xs L j k b) (hs : L.testBit k = true → ¬ bf xs k j) : FreeTo xs L j (k + 1) b := by
  unfold FreeTo at *
  rw [h]
  refine and_congr_right fun _ => ⟨fun hh i hi hL => ?_, fun hh i hi => hh i (by omega)⟩
  rcases Nat.lt_or_ge i k with h1 | h1
  · exact hh i h1 hL
  · obtain rfl : i = k := by omega
    exact hs hL
theorem FreeTo.no {xs : List Nat} {L j k : Nat} (hL : L.testBit k = true) (hb : bf xs k j) : FreeTo xs L j (k + 1) false := by
  unfold FreeTo
  constructor
  · intro h
    cases h
  · intro h
    exact absurd hb (h.2 k (by omega) hL)
theorem FreeTo.full {n : Nat} {xs : List Nat} {L j : Nat} {b : Bool} (hr : Rel n xs) (hL : L < 2 ^ 64) (hs : ∀ x, L.testBit x = true → x < n) (h : FreeTo xs L j n b) : b = (freeN xs L).testBit j := by
  rw [Bool.eq_iff_iff, free_bit hr hL hs]
  unfold FreeTo at h
  rw [h]
  exact and_congr_right fun _ => ⟨fun hh i hi => hh i (hs i hi) hi, fun hh i _ => hh i⟩
theorem next_is {xs : List Nat} {L j : Nat} (hL : L < 2 ^ 64) (h : (freeN xs L).testBit j = true) (hb : ∀ k, k < j → (freeN xs L).testBit k = false) : nextN xs L = j ∧ freeN xs L ≠ 0 := by
  have h0 : freeN xs L ≠ 0 := by
    intro h0
    rw [h0] at h
    simp at h
  obtain ⟨_, h2, h3⟩ := M.ctz_bits _ h0 (freeN_lt xs hL)
  refine ⟨?_, h0⟩
  show Lib.ctz 64 (freeN xs L) = j
  rcases Nat.lt_trichotomy (Lib.ctz 64 (freeN xs L)) j with hlt | he | hlt
  · rw [hb _ hlt] at h2
    cases h2
  · exact he
  · rw [h3 _ hlt] at h
    cases h
theorem free_none {n : Nat} {xs : List Nat} {L : Nat} (hr : Rel n xs) (hL : L < 2 ^ 64) (hs : ∀ x, L.testBit x = true → x < n) (hb : ∀ k, k < n → (freeN xs L).testBit k = false) : freeN xs L = 0 := by
  apply Classical.byContradiction
  intro h0
  obtain ⟨x, hx⟩ := ne_bit h0
  have := hb x (hs x ((free_bit hr hL hs x).1 hx).1)
  rw [hx] at this
  cases this
theorem put_mem {D x : Nat} {l : List Nat} (hD : D < 2 ^ 64) (h : ∀ y, D.testBit y = true ↔ y ∈ l) (hx : x < 64) (y : Nat) : (M.putN D (x : Nat)).testBit y = true ↔ y ∈ l ++ [x] := by
  by_cases hy : y < 64
  · rw [M.putN_testBit _ _ _ hy]
    simp only [Bool.or_eq_true, decide_eq_true_eq, h, List.mem_append, List.mem_singleton]
    refine or_congr Iff.rfl ?_
    omega
  · rw [M.high _ y (M.putN_lt _ _ hD) (by omega)]
    have h2 : D.testBit y = false := M.high _ y hD (by omega)
    have h3 : y ∉ l := fun hc => by
      rw [(h y).2 hc] at h2
      cases h2
    simp [h3]
    omega
set_option maxHeartbeats 2000000 in
theorem lorder_may (a : Option Addr) (len cap : Nat) (xs : List Nat) (w : World) (hx : IsWords w a len xs) (hm : R.mayR xs = true) :
    Calls Tryd.prog 11 #[.slice a len cap] w (GivesI (ordL xs) (ordOk xs) w) := by
  obtain rfl : xs.length = len := hx.1
  have HM := rmay_any a xs.length cap xs w hx
  have hr : Rel xs.length xs := ⟨rfl, hx.2.2.1, hm⟩
  obtain ⟨i0, hi, hz0, hz1, hz2⟩ := info_parts Tryd.info3
  have hl := R.may_len hm
  have HR := Lib.hid hr
  rw [hm] at HM
  have HM := Lib.hid HM
  have HZ := Lib.hid hz0
  have HZ1 := Lib.hid hz1
  have HZ2 := Lib.hid hz2
  have HI := Lib.hid hi
  have HOK : Hid (ordOk xs = ((ordEnd xs).2 == 0)) := show ordOk xs = _ by simp [ordOk, hm]
  clear hz0 hz1 hz2 hi hr
  go_enter Tryd.func11, Tryd.ntmps11
  go_wp2_with fail
  refine HM.out.mono ?_
  rintro e w1 ⟨rfl, hb1⟩
  go_wp2
  go_loopw [4, 5] (fun v d wr => LOrdR xs.length xs w v d wr) (fun v _ _ => xs.length - lenOf v)
  case atStart =>
    refine ⟨[], 0, R.things xs.length, 64, none, 0, rfl, rfl, World.ownsRow_nil _ _ _ _, hb1, by decide, fun x => by simp, OInv.start HR.out, M.cnt_le _, rfl⟩
  case round =>
    obtain ⟨l, D, L, f, av, cv, rfl, rfl, hown, hb, hD, hDl, hO, hfc, hfe⟩ := hrel
    have HOWN := Lib.hid hown
    have HB := Lib.hid hb
    have HDL := Lib.hid hDl
    have HO := Lib.hid hO
    have HFE := Lib.hid hfe
    have hcnt := hO.cnt
    have hxr := hx.below hb
    have HS : Hid (∀ x, L.testBit x = true → x < xs.length) := fun x hx => ((HO.out.bit x).1 hx).1
    clear hown hb hDl hO hfe
    by_cases hll : l.length < xs.length
    · go_wp2
      go_loopw [6, 7] (fun nx i w' => LMidR xs.length xs L wr nx i w') (fun nx i _ => 2 * xs.length - (intOf i).toNat)
      case atStart => exact ⟨0, Nat.zero_le _, rfl, .inl ⟨rfl, fun k hk => by omega⟩, rfl⟩
      case round =>
        obtain ⟨j, hj, rfl, hnx, rfl⟩ := hrel
        rcases hnx with ⟨rfl, hnone⟩ | ⟨rfl, hf0⟩
        · have HNONE := Lib.hid hnone
          clear hnone
          by_cases hjl : j < xs.length
          · have hhas := M.hasB_nat D j hD
            have HH := Lib.hid (rhas_any D (j : Int) wr hD)
            rw [hhas] at HH
            have hLj : L.testBit j = !D.testBit j := by
              rw [Bool.eq_iff_iff, HO.out.bit, Bool.not_eq_true', Bool.eq_false_iff, Ne, HDL.out]
              exact ⟨fun h => h.2, fun h => ⟨hjl, h⟩⟩
            have HST : Hid (FreeTo xs L j 0 (!D.testBit j)) := show FreeTo xs L j 0 (!D.testBit j) by
              unfold FreeTo
              rw [← hLj]
              exact ⟨fun h => ⟨h, fun i hi => by omega⟩, fun h => h.1⟩
            clear hhas hLj
            generalize D.testBit j = bj at *
            go_wp2_with fail
            refine HH.out.mono ?_
            rintro e w' ⟨rfl, rfl⟩
            go_wp2
            go_loopw [8, 9] (fun fr k w' => LInR xs.length xs L j wr fr k w') (fun _ k _ => xs.length - (intOf k).toNat)
            case atStart => exact ⟨0, _, Nat.zero_le _, rfl, rfl, HST.out, rfl⟩
            case round =>
              obtain ⟨k, bb, hk, rfl, rfl, hfr, rfl⟩ := hrel
              have HFR := Lib.hid hfr
              clear hfr
              by_cases hkl : k < xs.length
              · have hhas := M.hasB_nat D k hD
                have HH2 := Lib.hid (rhas_any D (k : Int) wr hD)
                rw [hhas] at HH2
                clear hhas
                cases hdk : D.testBit k
                · rw [hdk] at HH2
                  have hLk : L.testBit k = true := (HO.out.bit k).2 ⟨hkl, fun h => by
                    rw [(HDL.out k).2 h] at hdk
                    cases hdk⟩
                  have hat := at_any a xs.length cap k j xs wr hxr hkl hl
                  cases hp : (R.row xs k).testBit j
                  · rw [hp] at hat
                    have HAT := Lib.hid hat
                    have HNX := Lib.hid (HFR.out.skip (fun _ => by rw [bf, hp]; decide))
                    clear hat hp hLk hdk
                    go_wp2_with fail
                    refine HH2.out.mono ?_
                    rintro e w' ⟨rfl, rfl⟩
                    go_wp2_with fail
                    refine HAT.out.mono ?_
                    rintro e w' ⟨rfl, rfl⟩
                    go_wp2
                    go_roundw
                    case rel => exact ⟨k + 1, bb, by omega, by go_num, rfl, HNX.out, rfl⟩
                    case measure => simp [intOf]; omega
                  · rw [hp] at hat
                    have HAT := Lib.hid hat
                    have HNX := Lib.hid (FreeTo.no (xs := xs) (j := j) hLk hp)
                    clear hat hp hLk hdk
                    go_wp2_with fail
                    refine HH2.out.mono ?_
                    rintro e w' ⟨rfl, rfl⟩
                    go_wp2_with fail
                    refine HAT.out.mono ?_
                    rintro e w' ⟨rfl, rfl⟩
                    go_wp2
                    go_roundw
                    case rel => exact ⟨k + 1, false, by omega, by go_num, rfl, HNX.out, rfl⟩
                    case measure => simp [intOf]; omega
                · rw [hdk] at HH2
                  have HNX := Lib.hid (HFR.out.skip (fun hL => by
                    have := ((HO.out.bit k).1 hL).2
                    exact absurd ((HDL.out k).1 hdk) this))
                  clear hdk
                  go_wp2_with fail
                  refine HH2.out.mono ?_
                  rintro e w' ⟨rfl, rfl⟩
                  go_wp2
                  go_roundw
                  case rel => exact ⟨k + 1, bb, by omega, by go_num, rfl, HNX.out, rfl⟩
                  case measure => simp [intOf]; omega
              · obtain rfl : k = xs.length := by omega
                have hfull := HFR.out.full HR.out HO.out.lt HS.out
                cases bb
                · have HNX : Hid (∀ k, k < j + 1 → (freeN xs L).testBit k = false) := fun k hk => by
                    rcases Nat.lt_or_ge k j with h1 | h1
                    · exact HNONE.out k h1
                    · obtain rfl : k = j := by omega
                      exact hfull.symm
                  clear hfull
                  go_wp2
                  go_roundw
                  case rel => exact ⟨j + 1, by omega, by go_num, .inl ⟨rfl, HNX.out⟩, rfl⟩
                  case measure => simp [intOf]; omega
                · obtain ⟨e1, e2⟩ := next_is HO.out.lt hfull.symm HNONE.out
                  have HNX : Hid (nextN xs L = j ∧ freeN xs L ≠ 0) := ⟨e1, e2⟩
                  clear hfull e1 e2
                  go_wp2
                  go_roundw
                  case rel => exact ⟨j + 1, by omega, by go_num, .inr ⟨by rw [HNX.out.1], HNX.out.2⟩, rfl⟩
                  case measure => simp [intOf]; omega
          · obtain rfl : j = xs.length := by omega
            have hf0 := free_none HR.out HO.out.lt HS.out HNONE.out
            have hno : ordOk xs = false := by
              rw [HOK.out, ← HFE.out, peelO_stop hf0]
              simp only [beq_eq_false_iff_ne]
              intro h0
              rw [h0] at hcnt
              have : M.cnt 0 = 0 := by decide
              omega
            have HNO := Lib.hid hno
            clear hf0 hno
            go_wp2
            go_ret2
            rw [ord_no HNO.out, HNO.out]
            exact givesI_no HB.out
        · obtain ⟨hxn, hxL, _⟩ := next_bits HR.out HO.out.lt HS.out hf0
          have hcd := cnt_drop L _ HO.out.lt (bit_lt HO.out.lt hxL) hxL
          have HSTEP := Lib.hid (HO.out.step HR.out hf0)
          obtain ⟨f', rfl⟩ : ∃ f', f = f' + 1 := ⟨f - 1, by omega⟩
          have HFE2 : Hid (peelO xs f' (M.dropN L (nextN xs L : Nat)) (l ++ [nextN xs L]) = ordEnd xs) := show _ = _ by
            rw [← peelO_go hf0]
            exact HFE.out
          have HPUT := Lib.hid (put_mem hD HDL.out (bit_lt HO.out.lt hxL))
          clear hf0 hxL
          generalize nextN xs L = x at *
          have hlen : (l ++ [x]).length = l.length + 1 := by simp
          have eint : ints (ci (l ++ [x])) = ints (ci l) ++ [Value.int .i64 (x : Nat)] := by rw [ci_snoc]; simp [ints]
          have HLEN := Lib.hid hlen
          have HEI := Lib.hid eint
          have hbase := HB.out.size
          have hx0 : ¬ ((x : Int) < 0) := by omega
          clear hlen eint
          by_cases hjl : j < xs.length
          all_goals
            go_wp2_with (at_builtin; refine wpList_append_lies _ rfl (.tmp 52) (.tmp 54) 28 rfl w.heap.size 3 i0 (.int .i64 0) 1 8 Tryd.underlying28 HI.out HZ.out HZ1.out HZ2.out rfl (by decide) _ l.length _ rfl (HOWN.out.alloc _) ⟨wr.heap.size, 0, none⟩ 1 1 [.int .i64 (x : Nat)] rfl rfl (cell_one_new _ _ _) (by intro u hu; simp at hu; subst hu; rfl) (by decide) (by unfold maxLen; omega) (by omega) (by simp; omega) _ rfl ?_; intro g c1 w3 hown3 hgrow3 hat3 hlt3)
            have HOWN3 := Lib.hid hown3
            have HB3 := Lib.hid ((HB.out.alloc hbase (.cells #[.int .i64 (x : Nat)] 3)).grown hgrow3 (by simp; omega) (fun k hk => (HOWN.out.lt k hk).1))
            clear hown3 hgrow3 hat3 hlt3
            refine (rput_any D _ _ hD).mono ?_
            rintro e w4 ⟨rfl, rfl⟩
            go_wp2
            go_roundw
            case rel => exact ⟨l ++ [x], M.putN D (x : Nat), M.dropN L (x : Nat), f', some ⟨g, 0, none⟩, c1, by rw [HLEN.out], rfl, by rw [HLEN.out, HEI.out]; exact HOWN3.out, HB3.out, M.putN_lt _ _ hD, HPUT.out, HSTEP.out, by omega, HFE2.out⟩
            case measure => simp [lenOf]; omega
    · have hl0 : M.cnt L = 0 := by omega
      have hL0 : L = 0 := cnt_zero HO.out.lt hl0
      subst hL0
      have hf0 : freeN xs 0 = 0 := by simp [freeN, M.lessN]
      have hfe := HFE.out
      rw [peelO_stop hf0] at hfe
      have hok : ordOk xs = true := by rw [HOK.out, ← hfe]; rfl
      have hol : ordL xs = l := by simp [ordL, hok, ← hfe]
      have HOKT := Lib.hid hok
      have HOLT := Lib.hid hol
      clear hfe hok hol hf0
      go_wp2
      go_ret2
      rw [HOKT.out, HOLT.out]
      refine ⟨av, cv, rfl, ⟨ci_len l, by omega, ?_⟩, HB.out⟩
      rcases HOWN.out.2 with ⟨h0, h1⟩ | ⟨g, cap', cur, hv, _⟩
      · exact .inl h1
      · refine .inr ⟨g, 0, ?_, fun i hi => ?_⟩
        · cases hv
          rfl
        · have hown := HOWN.out
          cases hv
          exact own_cells hown i (by rw [ci_len]; exact hi)
end Go.Proofs.YtokehiehfgffmaaDoor
