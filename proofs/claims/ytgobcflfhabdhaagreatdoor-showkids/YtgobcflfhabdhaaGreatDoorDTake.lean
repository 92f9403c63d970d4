/-
  What take of the developers' cursor tells, whatever may follow, and by it a name, a number, a mode.
-/
import Derived.Test.YtgobcflfhabdhaaGreatDoorDMem
namespace Go.Proofs.YtgobcflfhabdhaaGreatDoor.Lx
open Go.RowKit
open L (Tok)
open P (EX CO ST)
set_option maxRecDepth 100000
set_option linter.unusedVariables false
set_option linter.unusedSimpArgs false
/-- A method of the cursor, as a value. -/
abbrev mval (F C : Nat) : Value := .func (.func F) #[.pointer (some ⟨C, 0, none⟩)] #[]
def takeR (b : Bool) : Sta → P.Res Tok
  | .ok (t :: r) => if b then .ok (t, r) else .error t.at'
  | .ok [] => .error 0
  | .error q => .error q
theorem takeR_no (st : Sta) : left (takeR false st) = dead st := by
  rcases st with q | ts
  · rfl
  · cases ts <;> rfl
def TakeD (C g : Nat) (TS : List Tok) (pv : Value) (r : P.Res Tok) (w : World) (e : Ending) (w' : World) : Prop :=
  ∃ t, e = .returned (tokV t) ∧ Dc w' C g TS pv (left r) ∧ Only (· = C) w w' ∧ ∀ a ts, r = .ok (a, ts) → t = a
theorem live_of_kind {st : Sta} (h0 : (nxt st).kind ≠ 0) : ∃ t r, st = .ok (t :: r) := by
  rcases st with q | ts
  · exact absurd rfl h0
  · cases ts with
    | nil => exact absurd rfl h0
    | cons t r => exact ⟨t, r, rfl⟩
theorem Dc.far4 {w : World} {C g : Nat} {TS : List Tok} {pv : Value} {st : Sta} (h : Dc w C g TS pv st) {R : Nat} (hC : ¬ C = R) (hg : ¬ g = R) (u0 u1 u2 u3 : Value) : Dc ((((w.setCell ⟨R, 0, none⟩ u0).setCell ⟨R, 1, none⟩ u1).setCell ⟨R, 2, none⟩ u2).setCell ⟨R, 3, none⟩ u3) C g TS pv st :=
  h.other (S := fun b => b = R) (Only.put4 (Only.refl (fun b => b = R) w) (.inl rfl) u0 u1 u2 u3) hC hg
set_option maxHeartbeats 800000 in
theorem take_d (F : Nat) (hF : Enters F) (b : Bool) (C g : Nat) (TS : List Tok) (pv : Value) (st : Sta) (w : World) (h : Dc w C g TS pv st)
    (hM : ∀ w, Dc w C g TS pv st → Calls Tryz.prog F #[.pointer (some ⟨C, 0, none⟩)] w (BoolTo b w)) (hk : b = true → (nxt st).kind ≠ 0 ∧ (nxt st).kind ≠ 4) :
    Calls Tryz.prog 48 #[.pointer (some ⟨C, 0, none⟩), mval F C] w (TakeD C g TS pv (takeR b st) w) := by
  have HF := Lib.hid hF
  have HD := Lib.hid h
  have HM := Lib.hid hM
  cases b with
  | false =>
    have HE := Lib.hid (takeR_no st)
    have HZ := Lib.hid (show ∀ a ts, takeR false st = .ok (a, ts) → (⟨0, [], 0, 0⟩ : Tok) = a from fun a ts hh => by
      rcases st with q | tt
      · cases hh
      · cases tt <;> cases hh)
    clear h hM hk hF
    unfold mval
    go_enter Tryz.func48, Tryz.ntmps48
    go_wp2_with fail
    have HR0 := Lib.hid (Blk.new w 104 #[.int .i64 0, .string ⟨#[]⟩, .int .i64 0, .int .i64 0])
    have hb0 : Below w.heap.size w (w.alloc (.cells #[.int .i64 0, .string ⟨#[]⟩, .int .i64 0, .int .i64 0] 104)) := (Below.refl _ _).alloc (Nat.le_refl _) _
    have HD0 := Lib.hid (HD.out.below hb0)
    have hCl : C < w.heap.size := HD.out.lts.1
    generalize w.alloc (.cells #[.int .i64 0, .string ⟨#[]⟩, .int .i64 0, .int .i64 0] 104) = w0 at *
    rw [HF.out, Oper.upon_enter]
    have hcall := HM.out _ HD0.out
    with_reducible refine hcall.mono ?_
    rintro e w1 ⟨rfl, hb1⟩
    have HD1 := Lib.hid (HD0.out.below hb1)
    have HR1 := Lib.hid (HR0.out.live' hb1)
    go_wp2_with fail
    with_reducible refine (refuse_d C g TS pv st _ HD1.out).mono ?_
    rintro e w2 ⟨rfl, hd2, ho2⟩
    have HD2 := Lib.hid hd2
    have HR2 := Lib.hid (HR1.out.only ho2 (by omega))
    have ho02 := ((Only.of_below (S := (· = C)) hb0).trans (Only.of_below hb1)).trans ho2
    clear hd2 hcall
    obtain ⟨r0, r1, r2, r3, s0, s1, s2, s3⟩ := four_free HR2.out
    go_wp2_with fail
    refine bodyPost_ret (results_cell_row (p := 4) rfl _ _ w.heap.size 104 #[.int .i64 0, .string ⟨#[]⟩, .int .i64 0, .int .i64 0] (0, 0) _ rfl (put4 HR2.out) Tryz.underlying104 rfl (by kernel_rfl)) rfl ?_
    refine ⟨⟨0, [], 0, 0⟩, rfl, ?_, Only.put4 ho02 (.inr (Nat.le_refl _)) _ _ _ _, HZ.out⟩
    rw [HE.out]
    exact HD2.out.far4 (by omega) (by have := HD.out.lts.2; omega) _ _ _ _
  | true =>
    obtain ⟨hk0, hk4⟩ := hk rfl
    obtain ⟨t, r, rfl⟩ := live_of_kind hk0
    obtain ⟨c, k, hb, hd, hr, hkl, hc, ht⟩ := h.more hk4
    have hmx := h.max
    have HB := Lib.hid hb
    have HR := Lib.hid hr
    have HN := Lib.hid (fun w => next_d C g TS pv (.ok (t :: r)) w)
    clear h hM hk hF hb hd hr ht hk4 hk0
    unfold mval
    obtain ⟨tk, tx, tn, ta⟩ := t
    go_enter Tryz.func48, Tryz.ntmps48
    go_wp2_with fail
    have HR0 := Lib.hid (Blk.new w 104 #[.int .i64 0, .string ⟨#[]⟩, .int .i64 0, .int .i64 0])
    have hb0 : Below w.heap.size w (w.alloc (.cells #[.int .i64 0, .string ⟨#[]⟩, .int .i64 0, .int .i64 0] 104)) := (Below.refl _ _).alloc (Nat.le_refl _) _
    have HD0 := Lib.hid (HD.out.below hb0)
    have HB0 := Lib.hid (HB.out.live' hb0)
    have hCl : C < w.heap.size := HD.out.lts.1
    have hgl : g < w.heap.size := HD.out.lts.2
    generalize w.alloc (.cells #[.int .i64 0, .string ⟨#[]⟩, .int .i64 0, .int .i64 0] 104) = w0 at *
    rw [HF.out, Oper.upon_enter]
    have hcall := HM.out _ HD0.out
    with_reducible refine hcall.mono ?_
    rintro e w1 ⟨rfl, hb1⟩
    have HD1 := Lib.hid (HD0.out.below hb1)
    have HR1 := Lib.hid (HR0.out.live' hb1)
    have HB1 := Lib.hid (HB0.out.live' hb1)
    clear hcall
    go_wp2_with fail
    have hcall := HN.out _ HD1.out
    with_reducible refine hcall.mono ?_
    rintro e w2 ⟨rfl, hb2⟩
    have HD2 := Lib.hid (HD1.out.below hb2)
    have HR2 := Lib.hid (HR1.out.live' hb2)
    have HB2 := Lib.hid (HB1.out.live' hb2)
    rw [tokV, nxt]
    clear hcall
    generalize hX : bs tx = X at *
    go_upto_region 5 with (fail)
    have HE3 := Lib.hid (Blk.new w2 104 #[.int .i64 tk, .string X, .int .i64 tn, .int .i64 ta])
    have hb3 : Below w2.heap.size w2 (w2.alloc (.cells #[.int .i64 tk, .string X, .int .i64 tn, .int .i64 ta] 104)) := (Below.refl _ _).alloc (Nat.le_refl _) _
    have HD3 := Lib.hid (HD2.out.below hb3)
    have HR3 := Lib.hid (HR2.out.live' hb3)
    have HB3 := Lib.hid (HB2.out.live' hb3)
    have HO3 := Lib.hid ((((Only.of_below (S := (· = C)) hb0).trans (Only.of_below hb1)).trans (Only.of_below hb2)).trans (Only.of_below hb3))
    have hRE : w.heap.size < w2.heap.size := HR2.out.lt
    clear hb0 hb1 hb2 hb3
    generalize w2.alloc (.cells #[.int .i64 tk, .string X, .int .i64 tn, .int .i64 ta] 104) = w3 at *
    generalize w2.heap.size = E at *
    obtain ⟨d0, d1, d2, d3, f0, f1, f2, f3⟩ := four_free HB3.out
    obtain ⟨r0, r1, r2, r3, s0, s1, s2, s3⟩ := four_free HR3.out
    obtain ⟨e0, e1, e2, e3, _, _, _, _⟩ := four_free HE3.out
    have z1 : ¬ c = 1 := by omega
    have z2 : 1 ≤ TS.length - k := by omega
    have z3 : ¬ E = C := by omega
    have z4 : ¬ w.heap.size = C := by omega
    go_wp2_with fail
    have HX := Lib.hid (HD3.out.next hkl hc HB3.out (Only.refl _ _))
    have HY := Lib.hid (HO3.out.setCell (p := ⟨C, 0, none⟩) (.inl rfl) (.slice (some ⟨g, k * 4 + 4, none⟩) (TS.length - k - 1) (c - 1)))
    have HZ := Lib.hid (HR3.out.far (p := ⟨C, 0, none⟩) z4 (.slice (some ⟨g, k * 4 + 4, none⟩) (TS.length - k - 1) (c - 1)))
    generalize w3.setCell ⟨C, 0, none⟩ (.slice (some ⟨g, k * 4 + 4, none⟩) (TS.length - k - 1) (c - 1)) = w4 at *
    refine bodyPost_ret (results_cell_row (p := 4) rfl _ _ w.heap.size 104 #[.int .i64 tk, .string X, .int .i64 tn, .int .i64 ta] (0, 0) _ rfl (put4 HZ.out) Tryz.underlying104 rfl (by kernel_rfl)) rfl ?_
    refine ⟨⟨tk, tx, tn, ta⟩, by rw [tokV, hX], ?_, Only.put4 HY.out (.inr (Nat.le_refl _)) _ _ _ _, fun a ts hh => ?_⟩
    · show Dc _ C g TS pv (.ok r)
      rw [HR.out]
      exact HX.out.far4 (by omega) (by omega) _ _ _ _
    · injection hh with hh
      injection hh with h1 h2
/-- A reader's answer, whatever the state: a value of its form, and, if all went on, what was read. -/
def TotD {α : Type} (Val : World → Value → α → Prop) (Any : World → Value → Prop) (C g : Nat) (TS : List Tok) (pv : Value) (r : P.Res α) (w : World) (e : Ending) (w' : World) : Prop :=
  ∃ v, e = .returned v ∧ Any w' v ∧ Dc w' C g TS pv (left r) ∧ Only (· = C) w w' ∧ ∀ a ts, r = .ok (a, ts) → Val w' v a
def NameD (C g : Nat) (TS : List Tok) (pv : Value) (r : P.Res (List UInt8)) (w : World) (e : Ending) (w' : World) : Prop :=
  ∃ t, e = .returned (tokV t) ∧ Dc w' C g TS pv (left r) ∧ Only (· = C) w w' ∧ ∀ a ts, r = .ok (a, ts) → t.text = a
def NumD (C g : Nat) (TS : List Tok) (pv : Value) (r : P.Res Nat) (w : World) (e : Ending) (w' : World) : Prop :=
  ∃ t, e = .returned (tokV t) ∧ Dc w' C g TS pv (left r) ∧ Only (· = C) w w' ∧ ∀ a ts, r = .ok (a, ts) → t.n = a
theorem enters_atName : Enters 49 := enters_of Tryz.func49 (by kernel_rfl) rfl
theorem enters_atNumber : Enters 50 := enters_of Tryz.func50 (by kernel_rfl) rfl
theorem enters_atEnd : Enters 59 := enters_of Tryz.func59 (by kernel_rfl) rfl
theorem enters_atMode : Enters 143 := enters_of Tryz.func143 (by kernel_rfl) rfl
theorem name_takeR (st : Sta) : left (takeR (onN st) st) = left (on st P.pName) ∧ ∀ s ts, on st P.pName = .ok (s, ts) → ∃ t, takeR (onN st) st = .ok (t, ts) ∧ t.text = s := by
  rcases st with q | ts
  · exact ⟨rfl, fun _ _ h => by cases h⟩
  · cases ts with
    | nil => exact ⟨rfl, fun _ _ h => by cases h⟩
    | cons t r =>
      show left (if P.isN (t :: r) = true then .ok (t, r) else .error t.at') = left (if P.isN (t :: r) = true then .ok (t.text, r) else .error t.at') ∧ ∀ s ts, (if P.isN (t :: r) = true then (.ok (t.text, r) : P.Res (List UInt8)) else .error t.at') = .ok (s, ts) → ∃ t', (if P.isN (t :: r) = true then (.ok (t, r) : P.Res Tok) else .error t.at') = .ok (t', ts) ∧ t'.text = s
      cases P.isN (t :: r) with
      | false => exact ⟨rfl, fun _ _ h => by cases h⟩
      | true => exact ⟨rfl, fun _ _ h => by cases h; exact ⟨t, rfl, rfl⟩⟩
theorem num_takeR (st : Sta) : left (takeR (onD st) st) = left (on st P.pNum) ∧ ∀ s ts, on st P.pNum = .ok (s, ts) → ∃ t, takeR (onD st) st = .ok (t, ts) ∧ t.n = s := by
  rcases st with q | ts
  · exact ⟨rfl, fun _ _ h => by cases h⟩
  · cases ts with
    | nil => exact ⟨rfl, fun _ _ h => by cases h⟩
    | cons t r =>
      show left (if P.isD (t :: r) = true then .ok (t, r) else .error t.at') = left (if P.isD (t :: r) = true then .ok (t.n, r) else .error t.at') ∧ ∀ s ts, (if P.isD (t :: r) = true then (.ok (t.n, r) : P.Res Nat) else .error t.at') = .ok (s, ts) → ∃ t', (if P.isD (t :: r) = true then (.ok (t, r) : P.Res Tok) else .error t.at') = .ok (t', ts) ∧ t'.n = s
      cases P.isD (t :: r) with
      | false => exact ⟨rfl, fun _ _ h => by cases h⟩
      | true => exact ⟨rfl, fun _ _ h => by cases h; exact ⟨t, rfl, rfl⟩⟩
theorem name_d (C g : Nat) (TS : List Tok) (pv : Value) (st : Sta) (w : World) (h : Dc w C g TS pv st) :
    Calls Tryz.prog 48 #[.pointer (some ⟨C, 0, none⟩), mval 49 C] w (NameD C g TS pv (on st P.pName) w) := by
  refine (take_d _ enters_atName (onN st) C g TS pv st w h (fun w hw => atName_d C g TS pv st w hw) fun hb => ?_).mono ?_
  · rw [onN_nxt] at hb
    simp only [Bool.and_eq_true, beq_iff_eq] at hb
    omega
  · rintro e w' ⟨t, rfl, hd, ho, ht⟩
    obtain ⟨h1, h2⟩ := name_takeR st
    refine ⟨t, rfl, h1 ▸ hd, ho, fun a ts ha => ?_⟩
    obtain ⟨t', h3, h4⟩ := h2 a ts ha
    rw [ht t' ts h3]
    exact h4
theorem number_d (C g : Nat) (TS : List Tok) (pv : Value) (st : Sta) (w : World) (h : Dc w C g TS pv st) :
    Calls Tryz.prog 48 #[.pointer (some ⟨C, 0, none⟩), mval 50 C] w (NumD C g TS pv (on st P.pNum) w) := by
  refine (take_d _ enters_atNumber (onD st) C g TS pv st w h (fun w hw => atNumber_d C g TS pv st w hw) fun hb => ?_).mono ?_
  · rw [onD_nxt] at hb
    simp only [beq_iff_eq] at hb
    omega
  · rintro e w' ⟨t, rfl, hd, ho, ht⟩
    obtain ⟨h1, h2⟩ := num_takeR st
    refine ⟨t, rfl, h1 ▸ hd, ho, fun a ts ha => ?_⟩
    obtain ⟨t', h3, h4⟩ := h2 a ts ha
    rw [ht t' ts h3]
    exact h4
/-! ### modes -/
/-- The mode of a text, and whether it is one. -/
def modeP (s : List UInt8) : Nat × Bool :=
  bif s == P.modeT 0 then (0, true) else bif s == P.modeT 1 then (1, true) else bif s == P.modeT 2 then (2, true) else bif s == P.modeT 3 then (3, true) else bif s == P.modeT 4 then (4, true) else (0, false)
def ModeD (s : List UInt8) (w : World) (e : Ending) (w' : World) : Prop := e = .returned (.tuple #[.int .i64 ((modeP s).1 : Nat), .bool (modeP s).2]) ∧ w = w'
set_option maxHeartbeats 800000 in
theorem modeOf_d (s : List UInt8) (w : World) : Calls Tryz.prog 142 #[.string (bs s)] w (ModeD s w) := by
  have q0 : ((bs s).toList == [114, 108, 120]) = (s == [114, 108, 120]) := by rw [toList_by, by_bs]
  have q1 : ((bs s).toList == [97, 99, 113]) = (s == [97, 99, 113]) := by rw [toList_by, by_bs]
  have q2 : ((bs s).toList == [114, 101, 108]) = (s == [114, 101, 108]) := by rw [toList_by, by_bs]
  have q3 : ((bs s).toList == [97, 99, 113, 114, 101, 108]) = (s == [97, 99, 113, 114, 101, 108]) := by rw [toList_by, by_bs]
  have q4 : ((bs s).toList == [115, 99]) = (s == [115, 99]) := by rw [toList_by, by_bs]
  have HM := Lib.hid (show modeP s = (bif s == [114, 108, 120] then (0, true) else bif s == [97, 99, 113] then (1, true) else bif s == [114, 101, 108] then (2, true) else bif s == [97, 99, 113, 114, 101, 108] then (3, true) else bif s == [115, 99] then (4, true) else (0, false)) from rfl)
  generalize bs s = X at *
  cases x0 : s == [114, 108, 120]
  · cases x1 : s == [97, 99, 113]
    · cases x2 : s == [114, 101, 108]
      · cases x3 : s == [97, 99, 113, 114, 101, 108]
        · cases x4 : s == [115, 99]
          all_goals
            rw [x0] at q0 HM; rw [x1] at q1 HM; rw [x2] at q2 HM; rw [x3] at q3 HM; rw [x4] at q4 HM
            clear x0 x1 x2 x3 x4
            go_enter Tryz.func142, Tryz.ntmps142
            go_wp2_with fail
            go_ret2
            exact ⟨by rw [HM.out]; rfl, rfl⟩
        · rw [x0] at q0 HM; rw [x1] at q1 HM; rw [x2] at q2 HM; rw [x3] at q3 HM
          clear x0 x1 x2 x3 q4
          go_enter Tryz.func142, Tryz.ntmps142
          go_wp2_with fail
          go_ret2
          exact ⟨by rw [HM.out]; rfl, rfl⟩
      · rw [x0] at q0 HM; rw [x1] at q1 HM; rw [x2] at q2 HM
        clear x0 x1 x2 q3 q4
        go_enter Tryz.func142, Tryz.ntmps142
        go_wp2_with fail
        go_ret2
        exact ⟨by rw [HM.out]; rfl, rfl⟩
    · rw [x0] at q0 HM; rw [x1] at q1 HM
      clear x0 x1 q2 q3 q4
      go_enter Tryz.func142, Tryz.ntmps142
      go_wp2_with fail
      go_ret2
      exact ⟨by rw [HM.out]; rfl, rfl⟩
  · rw [x0] at q0 HM
    clear x0 q1 q2 q3 q4
    go_enter Tryz.func142, Tryz.ntmps142
    go_wp2_with fail
    go_ret2
    exact ⟨by rw [HM.out]; rfl, rfl⟩
def onM (st : Sta) : Bool := (modeP (nxt st).text).2
set_option maxHeartbeats 800000 in
theorem atMode_d (C g : Nat) (TS : List Tok) (pv : Value) (st : Sta) (w : World) (h : Dc w C g TS pv st) :
    Calls Tryz.prog 143 #[.pointer (some ⟨C, 0, none⟩)] w (BoolTo (onM st) w) := by
  have HN := Lib.hid (next_d C g TS pv st w h)
  have HT := Lib.hid (show onM st = (modeP (nxt st).text).2 from rfl)
  clear h
  generalize hT : nxt st = t at *
  obtain ⟨tk, tx, tn, ta⟩ := t
  have q1 := fun w => tf1 (.int .i64 tk) (.string (bs tx)) (.int .i64 tn) (.int .i64 ta) w
  have HM := Lib.hid (fun w => modeOf_d tx w)
  simp only at HT
  go_enter Tryz.func143, Tryz.ntmps143
  go_wp2_with fail
  with_reducible refine HN.out.mono ?_
  rintro e w1 ⟨rfl, hb1⟩
  rw [hT, tokV]
  generalize bs tx = X at *
  go_wp2_with fail
  have hcall := HM.out w1
  with_reducible refine hcall.mono ?_
  rintro e w2 ⟨rfl, rfl⟩
  go_wp2_with fail
  go_ret
  exact ⟨ret_bool HT.out.symm, hb1⟩
theorem mode_wordy : wordy (P.modeT 0) = true ∧ wordy (P.modeT 1) = true ∧ wordy (P.modeT 2) = true ∧ wordy (P.modeT 3) = true ∧ wordy (P.modeT 4) = true := by decide
theorem mode_takeR {w : World} {C g : Nat} {TS : List Tok} {pv : Value} {st : Sta} (h : Dc w C g TS pv st) :
    left (takeR (onM st) st) = left (on st P.pMode) ∧ (∀ m ts, on st P.pMode = .ok (m, ts) → ∃ t, takeR (onM st) st = .ok (t, ts) ∧ (modeP t.text).1 = m) ∧ (onM st = true → (nxt st).kind ≠ 0 ∧ (nxt st).kind ≠ 4) := by
  obtain ⟨w0, w1, w2, w3, w4⟩ := mode_wordy
  have e0 := h.text w0
  have e1 := h.text w1
  have e2 := h.text w2
  have e3 := h.text w3
  have e4 := h.text w4
  clear h
  rcases st with q | ts
  · exact ⟨rfl, fun _ _ h => (by cases h), fun h => (by cases h)⟩
  · cases ts with
    | nil => exact ⟨rfl, fun _ _ h => (by cases h), fun h => (by cases h)⟩
    | cons t r =>
      have k0 : ∀ s, onIs s (.ok (t :: r)) = true → t.kind ≠ 0 ∧ t.kind ≠ 4 := fun s hh => by
        have hh' : ((t.kind == 1 || t.kind == 3) && t.text == s) = true := hh
        simp only [Bool.and_eq_true, Bool.or_eq_true, beq_iff_eq] at hh'
        omega
      have hp : on (.ok (t :: r)) P.pMode = (if onIs (P.modeT 0) (.ok (t :: r)) then .ok (0, r) else if onIs (P.modeT 1) (.ok (t :: r)) then .ok (1, r) else if onIs (P.modeT 2) (.ok (t :: r)) then .ok (2, r) else if onIs (P.modeT 3) (.ok (t :: r)) then .ok (3, r) else if onIs (P.modeT 4) (.ok (t :: r)) then .ok (4, r) else .error t.at') := rfl
      have hn : nxt (.ok (t :: r)) = t := rfl
      have ht : takeR (onM (.ok (t :: r))) (.ok (t :: r)) = (if onM (.ok (t :: r)) then .ok (t, r) else .error t.at') := rfl
      rw [hp, ht, onM, hn]
      rw [hn] at e0 e1 e2 e3 e4
      unfold modeP
      cases x0 : onIs (P.modeT 0) (.ok (t :: r)) with
      | true => rw [x0] at e0; rw [e0]; exact ⟨rfl, fun _ _ h => (by cases h; exact ⟨t, rfl, by rw [e0]; rfl⟩), fun _ => k0 _ x0⟩
      | false =>
        cases x1 : onIs (P.modeT 1) (.ok (t :: r)) with
        | true => rw [x0] at e0; rw [x1] at e1; rw [e0, e1]; exact ⟨rfl, fun _ _ h => (by cases h; exact ⟨t, rfl, by rw [e0, e1]; rfl⟩), fun _ => k0 _ x1⟩
        | false =>
          cases x2 : onIs (P.modeT 2) (.ok (t :: r)) with
          | true => rw [x0] at e0; rw [x1] at e1; rw [x2] at e2; rw [e0, e1, e2]; exact ⟨rfl, fun _ _ h => (by cases h; exact ⟨t, rfl, by rw [e0, e1, e2]; rfl⟩), fun _ => k0 _ x2⟩
          | false =>
            cases x3 : onIs (P.modeT 3) (.ok (t :: r)) with
            | true => rw [x0] at e0; rw [x1] at e1; rw [x2] at e2; rw [x3] at e3; rw [e0, e1, e2, e3]; exact ⟨rfl, fun _ _ h => (by cases h; exact ⟨t, rfl, by rw [e0, e1, e2, e3]; rfl⟩), fun _ => k0 _ x3⟩
            | false =>
              cases x4 : onIs (P.modeT 4) (.ok (t :: r)) with
              | true => rw [x0] at e0; rw [x1] at e1; rw [x2] at e2; rw [x3] at e3; rw [x4] at e4; rw [e0, e1, e2, e3, e4]; exact ⟨rfl, fun _ _ h => (by cases h; exact ⟨t, rfl, by rw [e0, e1, e2, e3, e4]; rfl⟩), fun _ => k0 _ x4⟩
              | false => rw [x0] at e0; rw [x1] at e1; rw [x2] at e2; rw [x3] at e3; rw [x4] at e4; rw [e0, e1, e2, e3, e4]; exact ⟨rfl, fun _ _ h => (by cases h), fun h => (by cases h)⟩
set_option maxHeartbeats 800000 in
theorem mode_d (C g : Nat) (TS : List Tok) (pv : Value) (st : Sta) (w : World) (h : Dc w C g TS pv st) :
    Calls Tryz.prog 128 #[.pointer (some ⟨C, 0, none⟩)] w (TotD IsNum AnyNum C g TS pv (on st P.pMode) w) := by
  obtain ⟨m1, m2, m3⟩ := mode_takeR h
  have HT := Lib.hid (take_d _ enters_atMode (onM st) C g TS pv st w h (fun w hw => atMode_d C g TS pv st w hw) m3)
  have M1 := Lib.hid m1
  have M2 := Lib.hid m2
  clear h m1 m2 m3
  unfold mval at HT
  go_enter Tryz.func128, Tryz.ntmps128
  go_wp2_with fail
  with_reducible refine HT.out.mono ?_
  rintro e w1 ⟨t, rfl, hd, ho, ht⟩
  have HH := Lib.hid ht
  have HD := Lib.hid hd
  clear ht hd
  obtain ⟨tk, tx, tn, ta⟩ := t
  rw [tokV]
  have q1 := fun w => tf1 (.int .i64 tk) (.string (bs tx)) (.int .i64 tn) (.int .i64 ta) w
  have HM := Lib.hid (modeOf_d tx w1)
  generalize bs tx = X at *
  go_wp2_with fail
  with_reducible refine HM.out.mono ?_
  rintro e w2 ⟨rfl, rfl⟩
  go_wp2_with fail
  go_ret
  refine ⟨_, rfl, ⟨_, rfl⟩, M1.out ▸ HD.out, ho, fun a ts ha => ?_⟩
  obtain ⟨t', h3, h4⟩ := M2.out a ts ha
  have h5 := HH.out t' ts h3
  subst h5
  show Value.int .i64 _ = _
  rw [← h4]
end Go.Proofs.YtgobcflfhabdhaaGreatDoor.Lx
