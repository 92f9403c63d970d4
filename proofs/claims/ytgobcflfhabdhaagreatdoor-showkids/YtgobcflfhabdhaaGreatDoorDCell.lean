/-
  cell, thread, ask, the end: contracts of the developers' cursor.
-/
import Derived.Test.YtgobcflfhabdhaaGreatDoorDMany2
namespace Go.Proofs.YtgobcflfhabdhaaGreatDoor.P
open L (Tok)
set_option linter.unusedVariables false
set_option linter.unusedSimpArgs false
abbrev isInit (ts : List Tok) : Bool := isS [105, 110, 105, 116] ts
abbrev isThr (ts : List Tok) : Bool := isS [116, 104, 114, 101, 97, 100] ts
def cellF (ts : List Tok) : Res ((List UInt8 × Int) × List Nat) :=
  match need [105, 110, 105, 116] ts with
  | .error p => .error p
  | .ok r0 =>
    match pName r0 with
    | .error p => .error p
    | .ok (l, r1) =>
      match pNum r1 with
      | .error p => .error p
      | .ok (n, r2) => .ok (((l, (n : Int)), [here ts]), r2)
def threadF (ts : List Tok) : Res (List ST × List Nat) :=
  match need [116, 104, 114, 101, 97, 100] ts with
  | .error p => .error p
  | .ok r => pBlock r
theorem cellF_less : Less cellF := by
  intro ts a r h
  unfold cellF at h
  split at h
  · cases h
  · rename_i r0 h0
    have l0 := need_less h0
    split at h
    · cases h
    · rename_i l r1 h1
      have l1 := pName_less _ _ _ h1
      split at h
      · cases h
      · rename_i n r2 h2
        have l2 := pNum_less _ _ _ h2
        cases h
        omega
theorem threadF_less : Less threadF := by
  intro ts a r h
  unfold threadF at h
  split at h
  · cases h
  · rename_i r0 h0
    have l0 := need_less h0
    have l1 := blockF_less (stmtN_less _) _ _ _ h
    omega
theorem need_yes {s : List UInt8} {ts : List Tok} (h : isS s ts = true) : need s ts = .ok ts.tail := by rw [need, if_pos h]
theorem initL_run : ∀ (k : Nat) (ts : List Tok), initL k ts = runL isInit cellF k ts
  | 0, ts => rfl
  | k + 1, ts => by
    unfold initL runL
    cases h : isS [105, 110, 105, 116] ts with
    | false => simp [isInit, h]
    | true =>
      simp only [isInit, h, if_true, cellF, need_yes h]
      cases pName ts.tail with
      | error p => rfl
      | ok x =>
        obtain ⟨l, r1⟩ := x
        simp only
        cases pNum r1 with
        | error p => rfl
        | ok y =>
          obtain ⟨n, r2⟩ := y
          simp only
          rw [initL_run k r2]
          cases runL isInit cellF k r2 <;> rfl
theorem threadL_run : ∀ (k : Nat) (ts : List Tok), threadL k ts = runL isThr threadF k ts
  | 0, ts => rfl
  | k + 1, ts => by
    unfold threadL runL
    cases h : isS [116, 104, 114, 101, 97, 100] ts with
    | false => simp [isThr, h]
    | true =>
      simp only [isThr, h, if_true, threadF, need_yes h]
      cases pBlock ts.tail with
      | error p => rfl
      | ok x =>
        obtain ⟨⟨b, ps⟩, r1⟩ := x
        simp only
        rw [threadL_run k r1]
        cases runL isThr threadF k r1 <;> rfl
theorem runF_more {α : Type} {may : List Tok → Bool} {one : List Tok → Res (α × List Nat)} {ts : List Tok} (h0 : may [] = false) (hl : Less one) (h : may ts = true) : runF may one ts = moreR (runF may one) (one ts) := by
  have := glue_more h0 hl h [] []
  rw [glue_nil] at this
  rw [this]
  rcases one ts with p | ⟨⟨a, q⟩, r⟩ <;> rfl
theorem Gl_stop {α : Type} {may : List Tok → Bool} {one : List Tok → Res (α × List Nat)} {r : Res (List α × List Nat)} (h : ∀ a ts, r = .ok (a, ts) → may ts = false) : Gl (runF may one) r = r := by
  rcases r with p | ⟨⟨l, q⟩, ts⟩
  · rfl
  · exact glue_stop (h _ ts rfl) l q
end Go.Proofs.YtgobcflfhabdhaaGreatDoor.P
namespace Go.Proofs.YtgobcflfhabdhaaGreatDoor.Lx
open Go.RowKit
open L (Tok)
open P (EX CO ST Gl nextR)
set_option maxRecDepth 100000
set_option linter.unusedVariables false
set_option linter.unusedSimpArgs false
theorem Dc.slen {w : World} {C g : Nat} {TS : List Tok} {pv : Value} {st : Sta} (h : Dc w C g TS pv st) : slen st ≤ 10000 := by
  rcases st with q | ts
  · exact Nat.zero_le _
  · obtain ⟨a, n, c, _, k, rfl, _⟩ := h.blk
    have := h.max
    show (TS.drop k).length ≤ _
    rw [List.length_drop]
    omega
theorem cell_eq (ts : List Tok) : left (P.cellF ts) = left (on (left (on (onNeed [105, 110, 105, 116] (.ok ts)) P.pName)) P.pNum) ∧ ∀ a qs t, P.cellF ts = .ok ((a, qs), t) → ∃ l r n, on (onNeed [105, 110, 105, 116] (.ok ts)) P.pName = .ok (l, r) ∧ on (left (on (onNeed [105, 110, 105, 116] (.ok ts)) P.pName)) P.pNum = .ok (n, t) ∧ a = (l, ((n : Nat) : Int)) ∧ qs = [P.here ts] := by
  unfold P.cellF
  simp only [onNeed]
  cases P.need [105, 110, 105, 116] ts with
  | error p => exact ⟨rfl, fun _ _ _ h => by cases h⟩
  | ok r0 =>
    simp only [on]
    cases P.pName r0 with
    | error p => exact ⟨rfl, fun _ _ _ h => by cases h⟩
    | ok x =>
      obtain ⟨l, r1⟩ := x
      simp only [left]
      cases P.pNum r1 with
      | error p => exact ⟨rfl, fun _ _ _ h => by cases h⟩
      | ok y => exact ⟨rfl, fun _ _ _ h => by cases h; exact ⟨_, _, _, rfl, rfl, rfl, rfl⟩⟩
theorem Only.put2 {S : Nat → Prop} {a b : World} (h : Only S a b) {R : Nat} (hR : S R ∨ a.heap.size ≤ R) (u0 u1 : Value) : Only S a ((b.setCell ⟨R, 0, none⟩ u0).setCell ⟨R, 1, none⟩ u1) :=
  (h.setCell (p := ⟨R, 0, none⟩) hR _).setCell (p := ⟨R, 1, none⟩) hR _
theorem put2 {w : World} {R : Nat} {t : TypeId} {a b a' b' : Value} (hh : Blk w R t #[a, b]) : Blk ((w.setCell ⟨R, 0, none⟩ a').setCell ⟨R, 1, none⟩ b') R t #[a', b'] := (hh.set 0 a').set 1 b'
/-- A cell of a block that is neither the cursor's nor the places'. -/
theorem Cp.put {w w1 : World} {C g base : Nat} {TS : List Tok} {pv pv' : Value} {ps' : List Nat} {st : Sta} (h : Cp w w1 C g base TS pv pv' ps' st) {B : Nat} {t : TypeId} (h1 : 3 ≠ t) (h2 : 93 ≠ t) (hR : w.heap.size ≤ B) (hgR : g ≠ B) {cs : Array Value} (hB : Blk w1 B t cs) (i : Nat) (u : Value) : Cp w (w1.setCell ⟨B, i, none⟩ u) C g base TS pv pv' ps' st := by
  have hf := h.far hB h1 h2
  have ho : Only (fun b => b = B) w1 (w1.setCell ⟨B, i, none⟩ u) := (Only.refl (fun b => b = B) w1).setCell (p := ⟨B, i, none⟩) (.inl rfl) u
  exact h.near hR (fun e => hf (.inr e)) (ho.mono fun k hk => .inr hk) (h.dc.other ho (fun e => hf (.inl e.symm)) hgR)
set_option maxHeartbeats 3200000 in
theorem cell_d (C g base : Nat) (TS : List Tok) (pv : Value) (ps : List Nat) (ts : List Tok) (w : World) (h : Dc w C g TS pv (.ok ts)) (hp : OwnP w base pv ps) (hg : g < base) (hbase : base ≤ w.heap.size) (hn : ps.length + ts.length ≤ 50000) :
    Calls Tryz.prog 53 #[.pointer (some ⟨C, 0, none⟩)] w (PtD LE AnyE C g base TS pv ps ts.length (P.cellF ts) w) := by
  obtain ⟨hCl, hgl⟩ := h.lts
  have hlive := h.live
  have hlt := slen_less P.cellF_less hlive
  have H0 := Lib.hid (Cp.start h hp)
  have HNA := Lib.hid (nxt_at (ts := ts))
  have HE := Lib.hid (cell_eq ts)
  clear h hp
  go_enter Tryz.func53, Tryz.ntmps53
  go_wp2_with fail
  have hbA : Below w.heap.size w (w.alloc (.cells #[.string ⟨#[]⟩, .int .i64 0] 55)) := (Below.refl _ _).alloc (Nat.le_refl _) _
  have HR0 := Lib.hid (Blk.new w 55 #[.string ⟨#[]⟩, .int .i64 0])
  have H1 := Lib.hid (H0.out.call (Only.of_below hbA) (H0.out.dc.below hbA))
  have hsA : w.heap.size < (w.alloc (.cells #[.string ⟨#[]⟩, .int .i64 0] 55)).heap.size := HR0.out.lt
  clear hbA
  generalize w.alloc (.cells #[.string ⟨#[]⟩, .int .i64 0] 55) = w1 at *
  generalize hSe : w.heap.size = R at *
  have hRw : w.heap.size ≤ R := by omega
  have hRw' : R ≤ w.heap.size := by omega
  clear hSe
  with_reducible refine (part_d C g base TS pv ps (.ok ts) _ H1.out.dc H1.out.own hg (by omega) (by omega)).mono ?_
  rintro e w2 ⟨pv2, rfl, hd, hp, ho, hf⟩
  rw [HNA.out] at hp
  have hpl : (ps ++ [P.here ts]).length = ps.length + 1 := by simp
  have HR2 := Lib.hid (HR0.out.only ho (H1.out.far HR0.out (by decide) (by decide)))
  have H2 := Lib.hid (H1.out.on hd hp ho hf)
  have hs2 := ho.size
  clear hd hp ho hf H0 H1 HR0
  go_wp2_with fail
  with_reducible refine (want_d C g TS pv2 (.ok ts) ⟨#[105, 110, 105, 116]⟩ _ H2.out.dc (by decide)).mono ?_
  rintro e w3 ⟨rfl, hd, ho⟩
  have HR3 := Lib.hid (HR2.out.only ho (fun e => H2.out.far HR2.out (by decide) (by decide) (.inl e)))
  have H3 := Lib.hid (H2.out.call (st2 := onNeed [105, 110, 105, 116] (.ok ts)) ho hd)
  have hs3 := ho.size
  clear hd ho
  go_wp2_with fail
  with_reducible refine (name_d C g TS pv2 _ _ H3.out.dc).mono ?_
  rintro e w4 ⟨t, rfl, hd, ho, ht⟩
  have HR4 := Lib.hid (HR3.out.only ho (fun e => H3.out.far HR3.out (by decide) (by decide) (.inl e)))
  have H4 := Lib.hid (H3.out.call ho hd)
  have HT4 := Lib.hid ht
  have hs4 := ho.size
  clear hd ho ht
  obtain ⟨tk, tx, tn, ta⟩ := t
  rw [tokV]
  have q1 := fun w => tf1 (.int .i64 tk) (.string (bs tx)) (.int .i64 tn) (.int .i64 ta) w
  generalize hX : bs tx = X at *
  have HX := Lib.hid hX
  clear hX
  go_wp2_with fail
  clear q1
  with_reducible refine (number_d C g TS pv2 _ _ H4.out.dc).mono ?_
  rintro e w5 ⟨t, rfl, hd, ho, ht⟩
  have HR5 := Lib.hid (HR4.out.only ho (fun e => H4.out.far HR4.out (by decide) (by decide) (.inl e)))
  have H5 := Lib.hid (H4.out.call ho hd)
  have HT5 := Lib.hid ht
  have hs5 := ho.size
  clear hd ho ht
  obtain ⟨uk, ux, un, ua⟩ := t
  rw [tokV]
  have q2 := fun w => tf2 (.int .i64 uk) (.string (bs ux)) (.int .i64 un) (.int .i64 ua) w
  generalize bs ux = Y at *
  have z0 : w5.cell? ⟨R, 0, none⟩ = some _ := HR5.out.cell 0
  have z1 : w5.cell? ⟨R, 1, none⟩ = some _ := HR5.out.cell 1
  have o0 : w5.frozen? ⟨R, 0, none⟩ = false := HR5.out.free 0
  have o1 : w5.frozen? ⟨R, 1, none⟩ = false := HR5.out.free 1
  go_wp2_with fail
  refine bodyPost_ret (results_cell_row (p := 2) rfl _ _ R 55 #[.string X, .int .i64 un] (0, 0) _ rfl (put2 HR5.out) Tryz.underlying55 rfl (by kernel_rfl)) rfl ?_
  have H6 := (H5.out.put (t := 55) (by decide) (by decide) (by omega) (by omega) HR5.out 0 (.string X)).put (t := 55) (by decide) (by decide) (by omega) (by omega) (HR5.out.set 0 (.string X)) 1 (.int .i64 un)
  refine ⟨_, pv2, ps ++ [P.here ts], rfl, ⟨_, _, rfl⟩, HE.out.1 ▸ H6.dc, H6.own, by rw [hpl]; omega, H6.only, H6.fr, fun a qs t hh => ?_⟩
  obtain ⟨l, r, n, h1, h2, rfl, rfl⟩ := HE.out.2 a qs t hh
  have e1 : tx = l := HT4.out l r h1
  have e2 : un = n := HT5.out n t h2
  refine ⟨rfl, ?_⟩
  subst e1
  subst e2
  show Value.agg #[.string X, .int .i64 un] = _
  rw [← HX.out]
theorem thread_eq (ts : List Tok) : on (onNeed [116, 104, 114, 101, 97, 100] (.ok ts)) P.pBlock = P.threadF ts := by
  unfold P.threadF
  simp only [onNeed]
  cases P.need [116, 104, 114, 101, 97, 100] ts <;> rfl
set_option maxHeartbeats 3200000 in
theorem thread_d (C g base : Nat) (TS : List Tok) (pv : Value) (ps : List Nat) (ts : List Tok) (w : World) (h : Dc w C g TS pv (.ok ts)) (hp : OwnP w base pv ps) (hg : g < base) (hbase : base ≤ w.heap.size) (hn : ps.length + ts.length ≤ 50000) :
    Calls Tryz.prog 56 #[.pointer (some ⟨C, 0, none⟩)] w (PtD IsSs AnySl C g base TS pv ps ts.length (P.threadF ts) w) := by
  have HE := Lib.hid (thread_eq ts)
  have H0 := Lib.hid (Cp.start h hp)
  have hl : slen (onNeed [116, 104, 114, 101, 97, 100] (.ok ts)) ≤ ts.length := slen_need _ (.ok ts)
  clear h hp
  go_enter Tryz.func56, Tryz.ntmps56
  go_wp2_with fail
  with_reducible refine (want_d C g TS pv (.ok ts) ⟨#[116, 104, 114, 101, 97, 100]⟩ _ H0.out.dc (by decide)).mono ?_
  rintro e w1 ⟨rfl, hd, ho⟩
  have H1 := Lib.hid (H0.out.call (st2 := onNeed [116, 104, 114, 101, 97, 100] (.ok ts)) ho hd)
  have hs1 := ho.size
  clear hd ho
  go_wp2_with fail
  with_reducible refine (blockTot_d C g base TS pv ps _ _ H1.out.dc H1.out.own hg (by omega) (by omega)).mono ?_
  rintro e w2 ⟨v, pv2, ps2, rfl, ⟨a2, n2, k2, rfl⟩, hd, hp, hb, ho, hf, hv⟩
  have H2 := Lib.hid (H1.out.on hd hp ho hf)
  have HV := Lib.hid hv
  clear hd hp ho hf hv
  rw [HE.out] at H2 HV hb
  go_wp2_with fail
  go_ret
  refine ⟨_, pv2, ps2, rfl, ⟨_, _, _, rfl⟩, H2.out.dc, H2.out.own, by omega, H2.out.only, H2.out.fr, fun a qs t hh => ?_⟩
  obtain ⟨h1, h2⟩ := HV.out a qs t hh
  exact ⟨h1, IsSs.step (fun b hb hl => ⟨⟨by have := hb.1; omega, hb.2⟩, rfl⟩) h2⟩
theorem ask_exists {st : Sta} (h : onIs [101, 120, 105, 115, 116, 115] st = true) : on st P.askF = (match tl st with | .error q => .error q | .ok r => .ok (1, r)) := by
  obtain ⟨t, r, rfl, _⟩ := onIs_live h
  have h' : P.isS [101, 120, 105, 115, 116, 115] (t :: r) = true := h
  have h2 := P.isS_one h' (s' := [102, 111, 114, 97, 108, 108]) (by decide)
  simp only [on, P.askF, h2, Bool.false_eq_true, if_false, P.need_yes h', tl]
theorem ask_forall {st : Sta} (h : onIs [102, 111, 114, 97, 108, 108] st = true) : on st P.askF = (match tl st with | .error q => .error q | .ok r => .ok (2, r)) := by
  obtain ⟨t, r, rfl, _⟩ := onIs_live h
  have h' : P.isS [102, 111, 114, 97, 108, 108] (t :: r) = true := h
  simp only [on, P.askF, h', if_true, tl]
theorem ask_no {st : Sta} (h1 : onIs [101, 120, 105, 115, 116, 115] st = false) (h2 : onIs [102, 111, 114, 97, 108, 108] st = false) : left (on st P.askF) = dead st ∧ ∀ a ts, on st P.askF ≠ .ok (a, ts) := by
  rcases st with q | ts
  · exact ⟨rfl, fun _ _ h => by cases h⟩
  · have h1' : P.isS [101, 120, 105, 115, 116, 115] ts = false := h1
    have h2' : P.isS [102, 111, 114, 97, 108, 108] ts = false := h2
    simp only [on, P.askF, h2', P.need, h1', Bool.false_eq_true, if_false]
    exact ⟨rfl, fun _ _ h => by cases h⟩
theorem left_tl (k : Nat) (st : Sta) : left (match tl st with | .error q => (.error q : P.Res Nat) | .ok r => .ok (k, r)) = tl st := by
  rcases st with q | ts <;> rfl
theorem ok_tl {k m : Nat} {st : Sta} {ts : List Tok} (h : (match tl st with | .error q => (.error q : P.Res Nat) | .ok r => .ok (k, r)) = .ok (m, ts)) : k = m := by
  rcases st with q | ts'
  · cases h
  · cases h
    rfl
set_option maxHeartbeats 3200000 in
theorem ask_d (C g : Nat) (TS : List Tok) (pv : Value) (st : Sta) (w : World) (h : Dc w C g TS pv st) :
    Calls Tryz.prog 57 #[.pointer (some ⟨C, 0, none⟩)] w (TotD IsNum AnyNum C g TS pv (on st P.askF) w) := by
  have HD := Lib.hid h
  clear h
  go_enter Tryz.func57, Tryz.ntmps57
  go_wp2_with fail
  with_reducible refine (pass_d C g TS pv st ⟨#[101, 120, 105, 115, 116, 115]⟩ _ HD.out (by decide)).mono ?_
  rintro e w1 ⟨rfl, hd1, ho1⟩
  rw [show by' (⟨#[101, 120, 105, 115, 116, 115]⟩ : ByteArray) = [101, 120, 105, 115, 116, 115] from rfl] at hd1 ⊢
  cases h1 : onIs [101, 120, 105, 115, 116, 115] st with
  | true =>
    have HE := Lib.hid (ask_exists h1)
    rw [h1] at hd1
    have HD1 : Hid (Dc w1 C g TS pv (tl st)) := Lib.hid hd1
    clear hd1 h1
    go_wp2_with fail
    go_ret
    refine ⟨_, rfl, ⟨_, rfl⟩, ?_, ho1, fun a ts hh => ?_⟩
    · rw [HE.out, left_tl]
      exact HD1.out
    · rw [HE.out] at hh
      obtain rfl := ok_tl hh
      rfl
  | false =>
    rw [h1] at hd1
    have HD1 : Hid (Dc w1 C g TS pv st) := Lib.hid hd1
    clear hd1
    go_wp2_with fail
    with_reducible refine (pass_d C g TS pv st ⟨#[102, 111, 114, 97, 108, 108]⟩ _ HD1.out (by decide)).mono ?_
    rintro e w2 ⟨rfl, hd2, ho2⟩
    rw [show by' (⟨#[102, 111, 114, 97, 108, 108]⟩ : ByteArray) = [102, 111, 114, 97, 108, 108] from rfl] at hd2 ⊢
    cases h2 : onIs [102, 111, 114, 97, 108, 108] st with
    | true =>
      have HE := Lib.hid (ask_forall h2)
      rw [h2] at hd2
      have HD2 : Hid (Dc w2 C g TS pv (tl st)) := Lib.hid hd2
      clear hd2 h2 h1
      go_wp2_with fail
      go_ret
      refine ⟨_, rfl, ⟨_, rfl⟩, ?_, ho1.trans ho2, fun a ts hh => ?_⟩
      · rw [HE.out, left_tl]
        exact HD2.out
      · rw [HE.out] at hh
        obtain rfl := ok_tl hh
        rfl
    | false =>
      have HE := Lib.hid (ask_no h1 h2)
      rw [h2] at hd2
      have HD2 : Hid (Dc w2 C g TS pv st) := Lib.hid hd2
      clear hd2 h2 h1
      go_wp2_with fail
      with_reducible refine (refuse_d C g TS pv st _ HD2.out).mono ?_
      rintro e w3 ⟨rfl, hd3, ho3⟩
      have HD3 := Lib.hid hd3
      clear hd3
      go_wp2_with fail
      go_ret
      refine ⟨_, rfl, ⟨_, rfl⟩, ?_, (ho1.trans ho2).trans ho3, fun a ts hh => absurd hh (HE.out.2 a ts)⟩
      rw [HE.out.1]
      exact HD3.out
/-- What take of the end tells: what became of the cursor's fault. -/
def EndD (C : Nat) (pv : Value) (st : Sta) (w : World) (e : Ending) (w' : World) : Prop :=
  ∃ t, e = .returned (tokV t) ∧ (∃ a n c, Blk w' C 93 #[.slice a n c, pv, .int .i64 (ferr st), .int .i64 (fat st)]) ∧ Only (· = C) w w'
set_option maxHeartbeats 1600000 in
theorem takeEnd_d (C g : Nat) (TS : List Tok) (pv : Value) (st : Sta) (w : World) (h : Dc w C g TS pv st) :
    Calls Tryz.prog 48 #[.pointer (some ⟨C, 0, none⟩), mval 59 C] w (EndD C pv (left (takeR (onE st) st)) w) := by
  cases hE : onE st with
  | false =>
    refine (take_d _ enters_atEnd false C g TS pv st w h (fun w hw => by rw [← hE]; exact atEnd_d C g TS pv st w hw) (fun hb => by cases hb)).mono ?_
    rintro e w' ⟨t, rfl, hd, ho, ht⟩
    obtain ⟨a, n, c, hb, _⟩ := hd.blk
    exact ⟨t, rfl, ⟨a, n, c, hb⟩, ho⟩
  | true =>
    have hk0 : (nxt st).kind ≠ 0 := by
      unfold onE at hE
      simp only [beq_iff_eq] at hE
      omega
    obtain ⟨t, r, rfl⟩ := live_of_kind hk0
    have HM := Lib.hid (fun w (hw : Dc w C g TS pv (.ok (t :: r))) => (show Calls Tryz.prog 59 #[.pointer (some ⟨C, 0, none⟩)] w (BoolTo true w) by rw [← hE]; exact atEnd_d C g TS pv _ w hw))
    have HN := Lib.hid (fun w => next_d C g TS pv (.ok (t :: r)) w)
    have HD := Lib.hid h
    obtain ⟨a, n, c, hb, k, hd, hl, rfl, rfl, hc⟩ := h.blk
    have hmx := h.max
    have hn1 : 1 ≤ TS.length - k := by omega
    have hn2 : TS.length - k ≤ 10000 := by omega
    generalize TS.length - k = n at *
    have HB := Lib.hid hb
    clear h hb hd hl hE hk0 hmx
    unfold mval
    obtain ⟨tk, tx, tn, ta⟩ := t
    go_enter Tryz.func48, Tryz.ntmps48
    go_wp2_with fail
    have HR0 := Lib.hid (Blk.new w 104 #[.int .i64 0, .string ⟨#[]⟩, .int .i64 0, .int .i64 0])
    have hb0 : Below w.heap.size w (w.alloc (.cells #[.int .i64 0, .string ⟨#[]⟩, .int .i64 0, .int .i64 0] 104)) := (Below.refl _ _).alloc (Nat.le_refl _) _
    have HD0 := Lib.hid (HD.out.below hb0)
    have HB0 := Lib.hid (HB.out.live' hb0)
    have hCl : C < w.heap.size := HD.out.lts.1
    have hgl : g < w.heap.size := HD.out.lts.2
    generalize w.alloc (.cells #[.int .i64 0, .string ⟨#[]⟩, .int .i64 0, .int .i64 0] 104) = w0 at *
    have hcall := HM.out _ HD0.out
    with_reducible refine hcall.mono ?_
    rintro e w1 ⟨rfl, hb1⟩
    have HD1 := Lib.hid (HD0.out.below hb1)
    have HR1 := Lib.hid (HR0.out.live' hb1)
    have HB1 := Lib.hid (HB0.out.live' hb1)
    clear hcall
    go_wp2_with fail
    have hcall := HN.out _ HD1.out
    with_reducible refine hcall.mono ?_
    rintro e w2 ⟨rfl, hb2⟩
    have HD2 := Lib.hid (HD1.out.below hb2)
    have HR2 := Lib.hid (HR1.out.live' hb2)
    have HB2 := Lib.hid (HB1.out.live' hb2)
    rw [tokV, nxt]
    clear hcall
    generalize hX : bs tx = X at *
    go_upto_region 5 with (fail)
    have HE3 := Lib.hid (Blk.new w2 104 #[.int .i64 tk, .string X, .int .i64 tn, .int .i64 ta])
    have hb3 : Below w2.heap.size w2 (w2.alloc (.cells #[.int .i64 tk, .string X, .int .i64 tn, .int .i64 ta] 104)) := (Below.refl _ _).alloc (Nat.le_refl _) _
    have HR3 := Lib.hid (HR2.out.live' hb3)
    have HB3 := Lib.hid (HB2.out.live' hb3)
    have HO3 := Lib.hid ((((Only.of_below (S := (· = C)) hb0).trans (Only.of_below hb1)).trans (Only.of_below hb2)).trans (Only.of_below hb3))
    have hRE : w.heap.size < w2.heap.size := HR2.out.lt
    clear hb0 hb1 hb2 hb3 HD HD0 HD1 HD2
    generalize w2.alloc (.cells #[.int .i64 tk, .string X, .int .i64 tn, .int .i64 ta] 104) = w3 at *
    generalize w2.heap.size = E at *
    obtain ⟨d0, d1, d2, d3, f0, f1, f2, f3⟩ := four_free HB3.out
    obtain ⟨r0, r1, r2, r3, s0, s1, s2, s3⟩ := four_free HR3.out
    obtain ⟨e0, e1, e2, e3, _, _, _, _⟩ := four_free HE3.out
    have z3 : ¬ E = C := by omega
    have z4 : ¬ w.heap.size = C := by omega
    have z5 : ¬ C = w.heap.size := by omega
    by_cases z1 : c = 1
    · subst z1
      obtain rfl : n = 1 := by omega
      clear hc hn1 hn2
      go_wp2_with fail
      refine bodyPost_ret (results_cell_row (p := 4) rfl _ _ w.heap.size 104 #[.int .i64 tk, .string X, .int .i64 tn, .int .i64 ta] (0, 0) _ rfl (put4 (HR3.out.far (p := ⟨C, 0, none⟩) z4 _)) Tryz.underlying104 rfl (by kernel_rfl)) rfl ?_
      refine ⟨⟨tk, tx, tn, ta⟩, by rw [tokV, hX], ⟨_, _, _, (HB3.out.set 0 _).only (Only.put4 (Only.refl (fun b => b = w.heap.size) _) (.inl rfl) _ _ _ _) z5⟩, Only.put4 (HO3.out.setCell (p := ⟨C, 0, none⟩) (.inl rfl) _) (.inr (Nat.le_refl _)) _ _ _ _⟩
    · go_wp2_with fail
      refine bodyPost_ret (results_cell_row (p := 4) rfl _ _ w.heap.size 104 #[.int .i64 tk, .string X, .int .i64 tn, .int .i64 ta] (0, 0) _ rfl (put4 (HR3.out.far (p := ⟨C, 0, none⟩) z4 _)) Tryz.underlying104 rfl (by kernel_rfl)) rfl ?_
      refine ⟨⟨tk, tx, tn, ta⟩, by rw [tokV, hX], ⟨_, _, _, (HB3.out.set 0 _).only (Only.put4 (Only.refl (fun b => b = w.heap.size) _) (.inl rfl) _ _ _ _) z5⟩, Only.put4 (HO3.out.setCell (p := ⟨C, 0, none⟩) (.inl rfl) _) (.inr (Nat.le_refl _)) _ _ _ _⟩
end Go.Proofs.YtgobcflfhabdhaaGreatDoor.Lx
