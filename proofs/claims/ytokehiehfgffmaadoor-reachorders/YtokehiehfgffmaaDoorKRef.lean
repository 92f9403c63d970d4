/-
  What Plus and Acyclic of the documents' answers tell, as contracts.
-/
import Derived.Test.YtokehiehfgffmaaDoorKTot
namespace Go.Proofs.YtokehiehfgffmaaDoor
open Go.RowKit
set_option linter.unusedVariables false
set_option linter.unusedSimpArgs false

/-- S is part of what x comes to, and has all steps from x. -/
structure PSeen (xs : List Nat) (x S : Nat) : Prop where
  lt : S < 2 ^ 64
  sub : ∀ j, bf xs x j → S.testBit j = true
  way : ∀ j, S.testBit j = true → Way xs x j
/-- Below y, what S has is gone on from. -/
def Clo1 (xs : List Nat) (S y : Nat) : Prop := ∀ k, k < y → S.testBit k = true → ∀ j, bf xs k j → S.testBit j = true
theorem PSeen.eq {n : Nat} {xs : List Nat} {x S : Nat} (hr : Rel n xs) (h : PSeen xs x S) (hc : Clo1 xs S n) : S = R.row (plusR xs) x := by
  refine M.ext _ _ h.lt ((plus_rel hr).2.1 x) fun j _ => ?_
  rw [Bool.eq_iff_iff]
  show S.testBit j = true ↔ bf (plusR xs) x j
  rw [plus_iff hr]
  constructor
  · exact h.way j
  · intro hw
    have key : ∀ {k j}, Way xs k j → S.testBit k = true → S.testBit j = true := by
      intro k j hw
      induction hw with
      | one hb => exact fun hk => hc _ (hr.lt hb).1 hk _ hb
      | on hb _ ih => exact fun hk => ih (hc _ (hr.lt hb).1 hk _ hb)
    cases hw with
    | one hb => exact h.sub j hb
    | on hb hw => exact key hw (h.sub _ hb)
theorem PSeen.hit {xs : List Nat} {x S y : Nat} (hw : R.Words xs) (h : PSeen xs x S) (hy : S.testBit y = true) : PSeen xs x (S ||| R.row xs y) := by
  refine ⟨Nat.or_lt_two_pow h.lt (hw y), fun j hb => ?_, fun j hb => ?_⟩
  · rw [Nat.testBit_or, h.sub j hb]
    rfl
  · rw [Nat.testBit_or, Bool.or_eq_true] at hb
    rcases hb with hb | hb
    · exact h.way j hb
    · exact (h.way y hy).snoc hb
theorem cnt_grow {S T : Nat} (hS : S < 2 ^ 64) (hT : T < 2 ^ 64) (h : M.withinB T S = false) : M.cnt S < M.cnt (S ||| T) := by
  have hex : ∃ j, j < 64 ∧ T.testBit j = true ∧ S.testBit j = false := by
    apply Classical.byContradiction
    intro hno
    have : M.withinB T S = true := (M.withinB_iff T S hT hS).2 fun j hj hb => by
      apply Classical.byContradiction
      intro hc
      exact hno ⟨j, hj, hb, by simpa using hc⟩
    rw [h] at this
    cases this
  obtain ⟨j, hj, h1, h2⟩ := hex
  unfold M.cnt M.bl
  refine filter_lt _ (fun i _ hb => by rw [Nat.testBit_or, hb]; rfl) ⟨j, List.mem_range.2 hj, by rw [Nat.testBit_or, h1]; simp, h2⟩
/-- The state of the search from x: what is seen, and whether there may be more. -/
def SeekR (xs : List Nat) (x : Nat) (wo : World) (s c : Value) (w : World) : Prop :=
  ∃ (S : Nat) (b : Bool), s = .int .u64 (S : Nat) ∧ c = .bool b ∧ PSeen xs x S ∧ (b = false → Clo1 xs S xs.length) ∧ w = wo
def SeekIn (xs : List Nat) (x S0 : Nat) (wo : World) (s c k : Value) (w : World) : Prop :=
  ∃ (S : Nat) (b : Bool) (y : Nat), s = .int .u64 (S : Nat) ∧ c = .bool b ∧ k = .int .i64 y ∧ y ≤ xs.length ∧ PSeen xs x S ∧ (b = false → S = S0 ∧ Clo1 xs S y) ∧ (b = true → M.cnt S0 < M.cnt S) ∧ w = wo
def seekM (s c : Value) : Nat := 2 * (64 - M.cnt (intOf s).toNat) + (match c with | .bool true => 1 | _ => 0)
theorem seekM_eq (S : Nat) (b : Bool) : seekM (.int .u64 (S : Nat)) (.bool b) = 2 * (64 - M.cnt S) + (if b then 1 else 0) := by
  cases b <;> simp [seekM, intOf]
/-- What Plus of the documents leaves. -/
def RPlusTo (xs : List Nat) (w : World) (e : Ending) (w' : World) : Prop := ∃ g, e = .returned (.slice (some ⟨g, 0, none⟩) xs.length xs.length) ∧ w.heap.size ≤ g ∧ Blk w' g 23 (words (plusR xs)) ∧ Below w.heap.size w w'
def RPlusR (xs : List Nat) (w0 : World) (g : Nat) (k : Value) (w : World) : Prop :=
  ∃ x : Nat, x ≤ xs.length ∧ k = .int .i64 x ∧ Blk w g 23 (words (R.part xs.length (R.row (plusR xs)) (List.range x))) ∧ Below w0.heap.size w0 w
set_option maxHeartbeats 2000000 in
theorem rplus_may (a : Option Addr) (len cap : Nat) (xs : List Nat) (w : World) (hx : IsWords w a len xs) (hm : R.mayR xs = true) :
    Calls Tryd.prog 10 #[.slice a len cap] w (RPlusTo xs w) := by
  obtain rfl : xs.length = len := hx.1
  have HM := rmay_any a xs.length cap xs w hx
  have hr : Rel xs.length xs := ⟨rfl, hx.2.2.1, hm⟩
  obtain ⟨i0, hi, hz0, hz1, hz2⟩ := info_parts Tryd.infoW
  have hl := R.may_len hm
  have hw := hx.2.2.1
  have HR := Lib.hid hr
  have HFULL : Hid (R.part xs.length (R.row (plusR xs)) (List.range xs.length) = plusR xs) := show _ = _ by
    rw [R.part_full]
    have := R.tab_eq (plusR xs)
    rw [(plus_rel hr).1] at this
    exact this.symm
  rw [hm] at HM
  have HM := Lib.hid HM
  have HZ := Lib.hid hz0
  have HZ1 := Lib.hid hz1
  have HZ2 := Lib.hid hz2
  have HI := Lib.hid hi
  clear hz0 hz1 hz2 hi hr
  go_enter Tryd.func10, Tryd.ntmps10
  go_wp2_with fail
  refine HM.out.mono ?_
  rintro e w1 ⟨rfl, hb1⟩
  go_wp2_with (at_make; refine wpList_make_full _ rfl (.tmp 12) (.tmp 12) 25 rfl w1.heap.size 23 i0 (.int .u64 0) 1 Tryd.underlying25 HI.out HZ.out HZ1.out .i64 .i64 (xs.length : Int) (xs.length : Int) xs.length rfl rfl rfl rfl (by rw [HZ2.out]; omega) (by unfold maxLen; omega) (Nat.le_refl _) ?_; intro w2 hown2 hgrow2)
  rw [made_words] at hown2
  obtain ⟨hg, hB⟩ := blk_of_own hown2
  have hb2 : Below w.heap.size w w2 := hb1.grown hgrow2 hb1.size (fun k hk => by cases hk)
  have hstart : RPlusR xs w w1.heap.size (.int .i64 0) w2 := ⟨0, Nat.zero_le _, rfl, by rw [List.range_zero, R.part_nil]; exact hB, hb2⟩
  have hgw := hb1.size
  clear hown2 hgrow2 hB hb2
  generalize w1.heap.size = g at *
  go_loopw [4] (fun k wr => RPlusR xs w g k wr) (fun k _ => xs.length - (intOf k).toNat)
  case atStart => exact hstart
  case round =>
    obtain ⟨x, hx', rfl, hBx, hbx⟩ := hrel
    by_cases hxl : x < xs.length
    · have hxr := hx.below hbx
      obtain ⟨b, off, rfl, hc⟩ := hxr.at (by omega)
      have cx := hc x hxl
      have hwx := hw x
      have HS0 : Hid (PSeen xs x (R.row xs x)) := ⟨hwx, fun j h => h, fun j h => .one h⟩
      have i1 : (0 : Int) ≤ (x : Int) := by omega
      have i2 : (x : Int) < (xs.length : Int) := by omega
      have HC := Lib.hid hc
      clear hc hxr
      go_wp2
      go_loopw [5, 6] (fun s c w' => SeekR xs x wr s c w') (fun s c _ => seekM s c)
      case atStart => exact ⟨_, true, rfl, rfl, HS0.out, (fun h => by cases h), rfl⟩
      case round =>
        obtain ⟨S, ch, rfl, rfl, hS, hcl, rfl⟩ := hrel
        have hSlt := hS.lt
        have HSS := Lib.hid hS
        have HCL := Lib.hid hcl
        clear hS hcl
        cases ch
        · have HEQ : Hid (S = R.row (plusR xs) x) := HSS.out.eq HR.out (HCL.out rfl)
          have cg : wr.cell? ⟨g, x, none⟩ = some (.int .u64 (R.row (R.part xs.length (R.row (plusR xs)) (List.range x)) x : Nat)) := by rw [hBx.cell, words_at _ _ (by rw [R.part_len]; exact hxl)]
          have cf := hBx.free x
          have hset := hBx.set x (.int .u64 (S : Nat))
          rw [HEQ.out, words_set, R.part_snoc, ← List.range_succ, ← HEQ.out] at hset
          have HSET := Lib.hid hset
          have HBB := Lib.hid (hbx.setCell (p := ⟨g, x, none⟩) hgw (.int .u64 (S : Nat)))
          clear hset hBx hbx
          go_wp2
          go_roundw
          case rel => exact ⟨x + 1, by omega, by go_num, HSET.out, HBB.out⟩
          case measure => simp [intOf]; omega
        · have HWR := Lib.hid hBx
          go_wp2
          go_loopw [5, 6, 7] (fun s c k w' => SeekIn xs x S wr s c k w') (fun _ _ k _ => xs.length - (intOf k).toNat)
          case atStart => exact ⟨S, false, 0, rfl, rfl, rfl, Nat.zero_le _, HSS.out, fun _ => ⟨rfl, fun k hk => by omega⟩, (fun h => by cases h), rfl⟩
          case round =>
            obtain ⟨T, ch, y, rfl, rfl, rfl, hy, hT, hno, hyes, rfl⟩ := hrel
            have hTlt := hT.lt
            have HTT := Lib.hid hT
            have HNO := Lib.hid hno
            have HYES := Lib.hid hyes
            clear hT hno hyes
            by_cases hyl : y < xs.length
            · have cy := HC.out y hyl
              have hwy := hw y
              have i3 : (0 : Int) ≤ (y : Int) := by omega
              have i4 : (y : Int) < (xs.length : Int) := by omega
              have hhas := M.hasB_nat T y hTlt
              cases hb : T.testBit y
              · rw [hb] at hhas
                have HH := Lib.hid (rhas_any T (y : Int) wr hTlt)
                rw [hhas] at HH
                have HNX : Hid (SeekIn xs x S wr (.int .u64 (T : Nat)) (.bool ch) (.int .i64 ((y : Int) + 1)) wr) := show SeekIn xs x S wr (.int .u64 (T : Nat)) (.bool ch) (.int .i64 ((y : Int) + 1)) wr from
                  ⟨T, ch, y + 1, rfl, rfl, by go_num, by omega, HTT.out, fun h => ⟨(HNO.out h).1, fun k hk hk2 j hj => by
                    rcases Nat.lt_or_ge k y with h1 | h1
                    · exact (HNO.out h).2 k h1 hk2 j hj
                    · obtain rfl : k = y := by omega
                      rw [hb] at hk2
                      cases hk2⟩, HYES.out, rfl⟩
                clear hhas hb hBx hbx
                go_wp2_with fail
                refine HH.out.mono ?_
                rintro e w' ⟨rfl, rfl⟩
                go_wp2
                go_roundw
                case rel => exact HNX.out
                case measure => simp [intOf]; omega
              · rw [hb] at hhas
                have HH := Lib.hid (rhas_any T (y : Int) wr hTlt)
                rw [hhas] at HH
                have HWI := Lib.hid (rwithin_any (R.row xs y) T wr hwy hTlt)
                cases hwi : M.withinB (R.row xs y) T
                · rw [hwi] at HWI
                  have hor := bits_or_u64_nat T (R.row xs y) hTlt hwy
                  have HNX : Hid (SeekIn xs x S wr (.int .u64 (T ||| R.row xs y : Nat)) (.bool true) (.int .i64 ((y : Int) + 1)) wr) := show SeekIn xs x S wr (.int .u64 (T ||| R.row xs y : Nat)) (.bool true) (.int .i64 ((y : Int) + 1)) wr from
                    ⟨T ||| R.row xs y, true, y + 1, rfl, rfl, by go_num, by omega, HTT.out.hit hw hb, (fun h => by cases h), (fun _ => by
                      have h1 := cnt_grow hTlt hwy hwi
                      cases hch : ch
                      · rw [← (HNO.out hch).1]
                        exact h1
                      · have := HYES.out hch
                        omega), rfl⟩
                  clear hhas hb hBx hbx hwi
                  go_wp2_with fail
                  refine HH.out.mono ?_
                  rintro e w' ⟨rfl, rfl⟩
                  go_wp2_with fail
                  refine HWI.out.mono ?_
                  rintro e w' ⟨rfl, rfl⟩
                  go_wp2
                  go_roundw
                  case rel => exact HNX.out
                  case measure => simp [intOf]; omega
                · rw [hwi] at HWI
                  have HNX : Hid (SeekIn xs x S wr (.int .u64 (T : Nat)) (.bool ch) (.int .i64 ((y : Int) + 1)) wr) := show SeekIn xs x S wr (.int .u64 (T : Nat)) (.bool ch) (.int .i64 ((y : Int) + 1)) wr from
                    ⟨T, ch, y + 1, rfl, rfl, by go_num, by omega, HTT.out, fun h => ⟨(HNO.out h).1, fun k hk hk2 j hj => by
                      rcases Nat.lt_or_ge k y with h1 | h1
                      · exact (HNO.out h).2 k h1 hk2 j hj
                      · obtain rfl : k = y := by omega
                        exact (M.withinB_iff _ _ hwy hTlt).1 hwi j (HR.out.lt hj).2.2 hj⟩, HYES.out, rfl⟩
                  clear hhas hb hBx hbx hwi
                  go_wp2_with fail
                  refine HH.out.mono ?_
                  rintro e w' ⟨rfl, rfl⟩
                  go_wp2_with fail
                  refine HWI.out.mono ?_
                  rintro e w' ⟨rfl, rfl⟩
                  go_wp2
                  go_roundw
                  case rel => exact HNX.out
                  case measure => simp [intOf]; omega
            · obtain rfl : y = xs.length := by omega
              go_wp2
              go_roundw
              case rel => exact ⟨T, ch, rfl, rfl, HTT.out, fun h => (HNO.out h).2, rfl⟩
              case measure =>
                show seekM (.int .u64 (T : Nat)) (.bool ch) < seekM (.int .u64 (S : Nat)) (.bool true)
                rw [seekM_eq, seekM_eq]
                have h64 := M.cnt_le T
                cases hch : ch
                · rw [(HNO.out hch).1]
                  simp
                · have := HYES.out hch
                  simp
                  omega
    · obtain rfl : x = xs.length := by omega
      go_wp2
      go_ret
      rw [HFULL.out] at hBx
      exact ⟨g, rfl, hgw, hBx, hbx⟩
end Go.Proofs.YtokehiehfgffmaaDoor
