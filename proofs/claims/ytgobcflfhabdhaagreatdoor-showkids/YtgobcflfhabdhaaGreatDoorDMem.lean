/-
  The developers' cursor over tokens, as memory has it, and what next, refuse, at, pass, want and the calls that ask what may follow tell: contracts.
-/
import Derived.Test.YtgobcflfhabdhaaGreatDoorPB
import Derived.Test.YtgobcflfhabdhaaGreatDoorPA
namespace Go.Proofs.YtgobcflfhabdhaaGreatDoor.Lx
open Go.RowKit
open L (Tok)
open P (EX CO ST)
set_option maxRecDepth 100000
set_option linter.unusedVariables false
set_option linter.unusedSimpArgs false
/-- What is left, or the place of the token that doesn't go on. -/
abbrev Sta := Except Nat (List Tok)
def ferr : Sta → Int
  | .ok _ => 0
  | .error _ => 2
def fat : Sta → Int
  | .ok _ => 0
  | .error p => (p : Nat)
/-- The tokens ahead. -/
def Ah (g : Nat) (TS : List Tok) (a : Option Addr) (n c : Nat) : Sta → Prop
  | .ok ts => ∃ k, ts = TS.drop k ∧ k < TS.length ∧ n = TS.length - k ∧ a = some ⟨g, k * 4, none⟩ ∧ n ≤ c
  | .error _ => n = 0
/-- Words begin with letters; only words and signs have texts that begin otherwise than digits do. -/
def Fine (t : Tok) : Prop := (t.kind = 1 ∧ ∃ b r, t.text = b :: r ∧ L.letB b = true) ∨ t.kind = 3 ∨ (t.kind = 2 ∧ ∃ b r, t.text = b :: r ∧ L.digB b = true) ∨ (t.kind = 4 ∧ t.text = [])
/-- A keyword's, a sign's text. -/
def wordy : List UInt8 → Bool
  | [] => false
  | b :: _ => !L.digB b
structure Dc (w : World) (C g : Nat) (TS : List Tok) (pv : Value) (st : Sta) : Prop where
  blk : ∃ a n c, Blk w C 93 #[.slice a n c, pv, .int .i64 (ferr st), .int .i64 (fat st)] ∧ Ah g TS a n c st
  row : ∀ i, i < TS.length → Four w g (i * 4) (tat TS i)
  ne : g ≠ C
  max : TS.length ≤ 10000
  pos : 0 < TS.length
  fin : (tat TS (TS.length - 1)).kind = 4
  good : ∀ i, i < TS.length → Fine (tat TS i)
theorem Dc.other {w w' : World} {C g : Nat} {TS : List Tok} {pv : Value} {st : Sta} (h : Dc w C g TS pv st) {S : Nat → Prop} (ho : Only S w w') (hC : ¬ S C) (hg : ¬ S g) : Dc w' C g TS pv st :=
  ⟨by obtain ⟨a, n, c, hb, ha⟩ := h.blk; exact ⟨a, n, c, hb.only ho hC, ha⟩, fun i hi => (h.row i hi).only ho hg, h.ne, h.max, h.pos, h.fin, h.good⟩
theorem Dc.below {w w' : World} {C g : Nat} {TS : List Tok} {pv : Value} {st : Sta} (h : Dc w C g TS pv st) (hb : Below w.heap.size w w') : Dc w' C g TS pv st := h.other (S := fun _ => False) (.of_below hb) id id
theorem Dc.drew {w : World} {C g : Nat} {TS : List Tok} {pv : Value} {st : Sta} (h : Dc w C g TS pv st) : Dc w.drew C g TS pv st := ⟨h.blk, h.row, h.ne, h.max, h.pos, h.fin, h.good⟩
theorem Dc.drewN {w : World} {C g : Nat} {TS : List Tok} {pv : Value} {st : Sta} (h : Dc w C g TS pv st) (n : Nat) : Dc (w.drewN n) C g TS pv st := ⟨h.blk, h.row, h.ne, h.max, h.pos, h.fin, h.good⟩
theorem Dc.lts {w : World} {C g : Nat} {TS : List Tok} {pv : Value} {st : Sta} (h : Dc w C g TS pv st) : C < w.heap.size ∧ g < w.heap.size :=
  ⟨by obtain ⟨a, n, c, hb, _⟩ := h.blk; exact hb.lt, World.block_lt_of_cell? w ⟨g, 0 * 4, none⟩ (h.row 0 h.pos).1⟩
/-- The cursor's block written anew. -/
theorem Dc.put {w w' : World} {C g : Nat} {TS : List Tok} {pv pv' : Value} {st st' : Sta} (h : Dc w C g TS pv st) (ho : Only (· = C) w w')
    (hb : ∃ a n c, Blk w' C 93 #[.slice a n c, pv', .int .i64 (ferr st'), .int .i64 (fat st')] ∧ Ah g TS a n c st') : Dc w' C g TS pv' st' :=
  ⟨hb, fun i hi => (h.row i hi).only ho h.ne, h.ne, h.max, h.pos, h.fin, h.good⟩
/-- The token ahead. -/
def nxt : Sta → Tok
  | .ok (t :: _) => t
  | _ => ⟨0, [], 0, 0⟩
def tokV (t : Tok) : Value := .agg #[.int .i64 t.kind, .string (bs t.text), .int .i64 t.n, .int .i64 t.at']
def NextD (st : Sta) (w : World) (e : Ending) (w' : World) : Prop := e = .returned (tokV (nxt st)) ∧ Below w.heap.size w w'
set_option maxHeartbeats 800000 in
theorem next_d (C g : Nat) (TS : List Tok) (pv : Value) (st : Sta) (w : World) (h : Dc w C g TS pv st) :
    Calls Tryz.prog 81 #[.pointer (some ⟨C, 0, none⟩)] w (NextD st w) := by
  obtain ⟨hCl, hgl⟩ := h.lts
  obtain ⟨a, n, c, hb, ha⟩ := h.blk
  have c0 := hb.cell 0
  rcases st with p | ts
  · obtain rfl : n = 0 := ha
    clear h hb
    go_enter Tryz.func81, Tryz.ntmps81
    go_wp2_with fail
    refine bodyPost_ret (results_cell_row (p := 2) rfl _ _ w.heap.size 104 #[.int .i64 0, .string ⟨#[]⟩, .int .i64 0, .int .i64 0] (0, 0) _ rfl (Blk.new w 104 _) Tryz.underlying104 rfl (by kernel_rfl)) rfl ?_
    exact ⟨rfl, (Below.refl _ _).alloc (Nat.le_refl _) _⟩
  · obtain ⟨k, rfl, hk, rfl, rfl, hc⟩ := ha
    obtain ⟨t0, t1, t2, t3⟩ := h.row k hk
    have HN := Lib.hid (show nxt (.ok (TS.drop k)) = tat TS k by rw [drop_tat hk]; rfl)
    have hm := h.max
    clear h hb
    generalize tat TS k = t at *
    obtain ⟨tk, tx, tn, ta⟩ := t
    simp only at t0 t1 t2 t3
    have hn0 : (((TS.length - k : Nat) : Int) == 0) = false := by simpa using (show ¬ TS.length - k = 0 by omega)
    have hn1 : 0 < TS.length - k := by omega
    go_enter Tryz.func81, Tryz.ntmps81
    go_wp2_with fail
    refine bodyPost_ret (results_cell_row (p := 2) rfl _ _ w.heap.size 104 #[.int .i64 tk, .string (bs tx), .int .i64 tn, .int .i64 ta] (0, 0) _ rfl (Blk.new w 104 _) Tryz.underlying104 rfl (by kernel_rfl)) rfl ?_
    refine ⟨by rw [HN.out]; rfl, (Below.refl _ _).alloc (Nat.le_refl _) _⟩
theorem tf0 (a b c d : Value) (w : World) : (Instr.field 104 (.agg #[a, b, c, d]) 0).run Tryz.prog w = .ok a w := by kernel_rfl
theorem tf1 (a b c d : Value) (w : World) : (Instr.field 104 (.agg #[a, b, c, d]) 1).run Tryz.prog w = .ok b w := by kernel_rfl
theorem tf2 (a b c d : Value) (w : World) : (Instr.field 104 (.agg #[a, b, c, d]) 2).run Tryz.prog w = .ok c w := by kernel_rfl
theorem tf3 (a b c d : Value) (w : World) : (Instr.field 104 (.agg #[a, b, c, d]) 3).run Tryz.prog w = .ok d w := by kernel_rfl
/-- Nothing goes on any more. -/
def dead : Sta → Sta
  | .ok ts => .error (P.here ts)
  | .error q => .error q
theorem nxt_at {ts : List Tok} : (nxt (.ok ts)).at' = P.here ts := by cases ts <;> rfl
def RefuseD (C g : Nat) (TS : List Tok) (pv : Value) (st : Sta) (w : World) (e : Ending) (w' : World) : Prop := e = .returned (.tuple #[]) ∧ Dc w' C g TS pv (dead st) ∧ Only (· = C) w w'
set_option maxHeartbeats 800000 in
theorem refuse_d (C g : Nat) (TS : List Tok) (pv : Value) (st : Sta) (w : World) (h : Dc w C g TS pv st) :
    Calls Tryz.prog 83 #[.pointer (some ⟨C, 0, none⟩)] w (RefuseD C g TS pv st w) := by
  have HD := Lib.hid h
  obtain ⟨hCl, hgl⟩ := h.lts
  obtain ⟨a, n, c, hb, ha⟩ := h.blk
  rcases st with p | ts
  · have c0 := hb.cell 0
    obtain rfl : n = 0 := ha
    clear h hb
    go_enter Tryz.func83, Tryz.ntmps83
    go_wp2_with fail
    go_end0
    exact ⟨rfl, HD.out, Only.refl _ _⟩
  · obtain ⟨k, rfl, hk, rfl, rfl, hc⟩ := ha
    have c0 := hb.cell 0
    have hn0 : (((TS.length - k : Nat) : Int) == 0) = false := by simpa using (show ¬ TS.length - k = 0 by omega)
    have HN := Lib.hid (fun w => next_d C g TS pv (.ok (TS.drop k)) w)
    have HA := Lib.hid (nxt_at (ts := TS.drop k))
    have HB := Lib.hid hb
    clear h hb
    generalize hT : nxt (.ok (TS.drop k)) = t at *
    obtain ⟨tk, tx, tn, ta⟩ := t
    go_enter Tryz.func83, Tryz.ntmps83
    go_wp2_with fail
    have hcall := HN.out _ HD.out
    with_reducible refine hcall.mono ?_
    rintro e w1 ⟨rfl, hb1⟩
    rw [hT, tokV]
    have q3 := fun w => tf3 (.int .i64 tk) (.string (bs tx)) (.int .i64 tn) (.int .i64 ta) w
    have HB1 := Lib.hid (HB.out.live' hb1)
    obtain ⟨d0, d1, d2, d3, f0, f1, f2, f3⟩ := four_free HB1.out
    go_wp2_with fail
    go_end0
    obtain rfl : P.here (TS.drop k) = ta := HA.out.symm
    have ho : Only (· = C) w (((w1.setCell ⟨C, 2, none⟩ (.int .i64 2)).setCell ⟨C, 3, none⟩ (.int .i64 ((P.here (TS.drop k) : Nat) : Int))).setCell ⟨C, 0, none⟩ (.slice none 0 0)) :=
      (((Only.of_below (S := (· = C)) hb1).setCell (p := ⟨C, 2, none⟩) (.inl rfl) _).setCell (p := ⟨C, 3, none⟩) (.inl rfl) _).setCell (p := ⟨C, 0, none⟩) (.inl rfl) _
    exact ⟨rfl, HD.out.put ho ⟨none, 0, 0, ((HB1.out.set 2 _).set 3 _).set 0 _, rfl⟩, ho⟩
theorem Dc.text {w : World} {C g : Nat} {TS : List Tok} {pv : Value} {st : Sta} (h : Dc w C g TS pv st) {s : List UInt8} (hs : wordy s = true) : ((nxt st).text == s) = onIs s st := by
  rcases st with q | ts
  · cases s with
    | nil => cases hs
    | cons b r => rfl
  · obtain ⟨a, n, c, _, k, rfl, hk, _⟩ := h.blk
    have hg := h.good k hk
    rw [drop_tat hk]
    show ((tat TS k).text == s) = ((((tat TS k).kind == 1) || ((tat TS k).kind == 3)) && ((tat TS k).text == s))
    generalize tat TS k = t at *
    rcases hg with ⟨h1, _⟩ | h3 | ⟨h2, b, r, ht, hd⟩ | ⟨h4, ht⟩
    · rw [h1]; simp
    · rw [h3]; simp
    · rw [h2, ht]
      cases s with
      | nil => rfl
      | cons b' r' =>
        have hne : (b == b') = false := by
          cases e : b == b' with
          | false => rfl
          | true =>
            have e' : b = b' := by simpa using e
            subst e'
            have hs' : (!L.digB b) = true := hs
            rw [hd] at hs'
            cases hs'
        show ((b == b') && (r == r')) = _
        rw [hne]
        rfl
    · rw [h4, ht]
      cases s with
      | nil => cases hs
      | cons b' r' => rfl
set_option maxHeartbeats 800000 in
theorem at_d (C g : Nat) (TS : List Tok) (pv : Value) (st : Sta) (s : ByteArray) (w : World) (h : Dc w C g TS pv st) (hs : wordy (by' s) = true) :
    Calls Tryz.prog 85 #[.pointer (some ⟨C, 0, none⟩), .string s] w (BoolTo (onIs (by' s) st) w) := by
  have HN := Lib.hid (next_d C g TS pv st w h)
  have HT := Lib.hid (h.text hs)
  have HX := Lib.hid (txb (nxt st).text s)
  clear h hs
  generalize hT : nxt st = t at *
  obtain ⟨tk, tx, tn, ta⟩ := t
  have q1 := fun w => tf1 (.int .i64 tk) (.string (bs tx)) (.int .i64 tn) (.int .i64 ta) w
  go_enter Tryz.func85, Tryz.ntmps85
  go_wp2_with fail
  with_reducible refine HN.out.mono ?_
  rintro e w1 ⟨rfl, hb1⟩
  rw [hT, tokV]
  generalize bs tx = X at *
  go_wp2_with fail
  go_ret
  exact ⟨ret_bool (HX.out.trans HT.out), hb1⟩
/-- Behind that token. -/
def tl : Sta → Sta
  | .ok ts => .ok ts.tail
  | .error q => .error q
def PassD (C g : Nat) (TS : List Tok) (pv : Value) (b : Bool) (st : Sta) (w : World) (e : Ending) (w' : World) : Prop := e = .returned (.bool b) ∧ Dc w' C g TS pv (bif b then tl st else st) ∧ Only (· = C) w w'
theorem onIs_live {s : List UInt8} {st : Sta} (h : onIs s st = true) : ∃ t r, st = .ok (t :: r) ∧ t.kind ≠ 4 := by
  rcases st with q | ts
  · cases h
  · cases ts with
    | nil => cases h
    | cons t r => exact ⟨t, r, rfl, isS_kind (s := s) (r := r) h⟩
theorem Dc.more {w : World} {C g : Nat} {TS : List Tok} {pv : Value} {t : Tok} {r : List Tok} (h : Dc w C g TS pv (.ok (t :: r))) (hk : t.kind ≠ 4) :
    ∃ c k, Blk w C 93 #[.slice (some ⟨g, k * 4, none⟩) (TS.length - k) c, pv, .int .i64 0, .int .i64 0] ∧ t :: r = TS.drop k ∧ r = TS.drop (k + 1) ∧ k + 1 < TS.length ∧ TS.length - k ≤ c ∧ t = tat TS k := by
  obtain ⟨a, n, c, hb, k, hd, hl, rfl, rfl, hc⟩ := h.blk
  have hd' := hd
  rw [drop_tat hl] at hd'
  injection hd' with e1 e2
  refine ⟨c, k, hb, hd, e2, ?_, hc, e1⟩
  by_cases hlt : k + 1 < TS.length
  · exact hlt
  · exfalso
    obtain rfl : k = TS.length - 1 := by omega
    exact hk (by rw [e1]; exact h.fin)
theorem Dc.next {w w1 : World} {C g : Nat} {TS : List Tok} {pv : Value} {r : List Tok} {k c : Nat} (h : Dc w C g TS pv (.ok r)) (hk : k + 1 < TS.length) (hc : TS.length - k ≤ c)
    (hb : Blk w1 C 93 #[.slice (some ⟨g, k * 4, none⟩) (TS.length - k) c, pv, .int .i64 0, .int .i64 0]) (ho : Only (· = C) w w1) :
    Dc (w1.setCell ⟨C, 0, none⟩ (.slice (some ⟨g, k * 4 + 4, none⟩) (TS.length - k - 1) (c - 1))) C g TS pv (.ok (TS.drop (k + 1))) :=
  h.put (ho.setCell (p := ⟨C, 0, none⟩) (.inl rfl) _) ⟨_, _, _, hb.set 0 _, k + 1, rfl, hk, by omega, by rw [show k * 4 + 4 = (k + 1) * 4 by omega], by omega⟩
set_option maxHeartbeats 800000 in
theorem pass_d (C g : Nat) (TS : List Tok) (pv : Value) (st : Sta) (s : ByteArray) (w : World) (h : Dc w C g TS pv st) (hs : wordy (by' s) = true) :
    Calls Tryz.prog 82 #[.pointer (some ⟨C, 0, none⟩), .string s] w (PassD C g TS pv (onIs (by' s) st) st w) := by
  have HD := Lib.hid h
  have HN := Lib.hid (at_d C g TS pv st s w h hs)
  cases hi : onIs (by' s) st with
  | false =>
    rw [hi] at HN
    clear h hi hs
    go_enter Tryz.func82, Tryz.ntmps82
    go_wp2_with fail
    with_reducible refine HN.out.mono ?_
    rintro e w1 ⟨rfl, hb1⟩
    go_wp2_with fail
    go_ret
    exact ⟨rfl, HD.out.below hb1, Only.of_below hb1⟩
  | true =>
    rw [hi] at HN
    obtain ⟨t, r, rfl, hk4⟩ := onIs_live hi
    obtain ⟨c, k, hb, hd, hr, hk, hc, ht⟩ := h.more hk4
    have hmx := h.max
    have HB := Lib.hid hb
    have HR := Lib.hid hr
    clear h hi hs hb hd hr ht hk4
    go_enter Tryz.func82, Tryz.ntmps82
    go_wp2_with fail
    with_reducible refine HN.out.mono ?_
    rintro e w1 ⟨rfl, hb1⟩
    have HB1 := Lib.hid (HB.out.live' hb1)
    obtain ⟨d0, d1, d2, d3, f0, f1, f2, f3⟩ := four_free HB1.out
    have z1 : ¬ c = 1 := by omega
    have z2 : 1 ≤ TS.length - k := by omega
    go_wp2_with fail
    go_ret
    refine ⟨rfl, ?_, (Only.of_below (S := (· = C)) hb1).setCell (p := ⟨C, 0, none⟩) (.inl rfl) _⟩
    show Dc _ C g TS pv (.ok r)
    rw [HR.out]
    exact HD.out.next hk hc HB1.out (.of_below hb1)
def WantD (C g : Nat) (TS : List Tok) (pv : Value) (st : Sta) (w : World) (e : Ending) (w' : World) : Prop := e = .returned (.tuple #[]) ∧ Dc w' C g TS pv st ∧ Only (· = C) w w'
theorem onNeed_yes {s : List UInt8} {st : Sta} (h : onIs s st = true) : onNeed s st = tl st := by
  obtain ⟨t, r, rfl, _⟩ := onIs_live h
  show P.need s (t :: r) = _
  have h' : P.isS s (t :: r) = true := h
  rw [P.need, h']
  rfl
theorem onNeed_no {s : List UInt8} {st : Sta} (h : onIs s st = false) : onNeed s st = dead st := by
  rcases st with q | ts
  · rfl
  · have h' : P.isS s ts = false := h
    show P.need s ts = _
    rw [P.need, h']
    rfl
set_option maxHeartbeats 800000 in
theorem want_d (C g : Nat) (TS : List Tok) (pv : Value) (st : Sta) (s : ByteArray) (w : World) (h : Dc w C g TS pv st) (hs : wordy (by' s) = true) :
    Calls Tryz.prog 47 #[.pointer (some ⟨C, 0, none⟩), .string s] w (WantD C g TS pv (onNeed (by' s) st) w) := by
  have HN := Lib.hid (pass_d C g TS pv st s w h hs)
  cases hi : onIs (by' s) st with
  | false =>
    have HE := Lib.hid (onNeed_no hi)
    rw [hi] at HN
    clear h hi hs
    go_enter Tryz.func47, Tryz.ntmps47
    go_wp2_with fail
    with_reducible refine HN.out.mono ?_
    rintro e w1 ⟨rfl, hd1, ho1⟩
    have HD1 : Hid (Dc w1 C g TS pv st) := Lib.hid hd1
    clear hd1
    go_wp2_with fail
    with_reducible refine (refuse_d C g TS pv st _ HD1.out).mono ?_
    rintro e w2 ⟨rfl, hd2, ho2⟩
    have HD2 := Lib.hid hd2
    clear hd2
    go_wp2_with fail
    go_end0
    exact ⟨rfl, HE.out ▸ HD2.out, ho1.trans ho2⟩
  | true =>
    have HE := Lib.hid (onNeed_yes hi)
    rw [hi] at HN
    clear h hi hs
    go_enter Tryz.func47, Tryz.ntmps47
    go_wp2_with fail
    with_reducible refine HN.out.mono ?_
    rintro e w1 ⟨rfl, hd1, ho1⟩
    have HD1 : Hid (Dc w1 C g TS pv (tl st)) := Lib.hid hd1
    clear hd1
    go_wp2_with fail
    go_end0
    exact ⟨rfl, HE.out ▸ HD1.out, ho1⟩
/-- What stands ahead, whatever the state. -/
def onN : Sta → Bool
  | .ok ts => P.isN ts
  | .error _ => false
def onD : Sta → Bool
  | .ok ts => P.isD ts
  | .error _ => false
def onE (st : Sta) : Bool := (nxt st).kind == 4
theorem onN_nxt (st : Sta) : onN st = ((nxt st).kind == 1 && !kwB (nxt st).text) := by
  rcases st with q | ts
  · rfl
  · cases ts <;> rfl
theorem onD_nxt (st : Sta) : onD st = ((nxt st).kind == 2) := by
  rcases st with q | ts
  · rfl
  · cases ts <;> rfl
set_option maxHeartbeats 800000 in
theorem atNumber_d (C g : Nat) (TS : List Tok) (pv : Value) (st : Sta) (w : World) (h : Dc w C g TS pv st) :
    Calls Tryz.prog 50 #[.pointer (some ⟨C, 0, none⟩)] w (BoolTo (onD st) w) := by
  have HN := Lib.hid (next_d C g TS pv st w h)
  have HT := Lib.hid (onD_nxt st)
  clear h
  generalize hT : nxt st = t at *
  obtain ⟨tk, tx, tn, ta⟩ := t
  have HX := Lib.hid (natb tk 2)
  have q1 := fun w => tf0 (.int .i64 tk) (.string (bs tx)) (.int .i64 tn) (.int .i64 ta) w
  go_enter Tryz.func50, Tryz.ntmps50
  go_wp2_with fail
  with_reducible refine HN.out.mono ?_
  rintro e w1 ⟨rfl, hb1⟩
  rw [hT, tokV]
  go_wp2_with fail
  go_ret
  exact ⟨ret_bool (HX.out.trans HT.out.symm), hb1⟩
set_option maxHeartbeats 800000 in
theorem atEnd_d (C g : Nat) (TS : List Tok) (pv : Value) (st : Sta) (w : World) (h : Dc w C g TS pv st) :
    Calls Tryz.prog 59 #[.pointer (some ⟨C, 0, none⟩)] w (BoolTo (onE st) w) := by
  have HN := Lib.hid (next_d C g TS pv st w h)
  have HT := Lib.hid (show onE st = ((nxt st).kind == 4) from rfl)
  clear h
  generalize hT : nxt st = t at *
  obtain ⟨tk, tx, tn, ta⟩ := t
  have HX := Lib.hid (natb tk 4)
  have q1 := fun w => tf0 (.int .i64 tk) (.string (bs tx)) (.int .i64 tn) (.int .i64 ta) w
  go_enter Tryz.func59, Tryz.ntmps59
  go_wp2_with fail
  with_reducible refine HN.out.mono ?_
  rintro e w1 ⟨rfl, hb1⟩
  rw [hT, tokV]
  go_wp2_with fail
  go_ret
  exact ⟨ret_bool (HX.out.trans HT.out.symm), hb1⟩
set_option maxHeartbeats 800000 in
theorem atInit_d (C g : Nat) (TS : List Tok) (pv : Value) (st : Sta) (w : World) (h : Dc w C g TS pv st) :
    Calls Tryz.prog 52 #[.pointer (some ⟨C, 0, none⟩)] w (BoolTo (onIs [105, 110, 105, 116] st) w) := by
  have HN := Lib.hid (at_d C g TS pv st ⟨#[105, 110, 105, 116]⟩ w h (by decide))
  clear h
  go_enter Tryz.func52, Tryz.ntmps52
  go_wp2_with fail
  with_reducible refine HN.out.mono ?_
  rintro e w1 ⟨rfl, hb1⟩
  go_wp2_with fail
  go_ret
  exact ⟨rfl, hb1⟩
set_option maxHeartbeats 800000 in
theorem atThread_d (C g : Nat) (TS : List Tok) (pv : Value) (st : Sta) (w : World) (h : Dc w C g TS pv st) :
    Calls Tryz.prog 55 #[.pointer (some ⟨C, 0, none⟩)] w (BoolTo (onIs [116, 104, 114, 101, 97, 100] st) w) := by
  have HN := Lib.hid (at_d C g TS pv st ⟨#[116, 104, 114, 101, 97, 100]⟩ w h (by decide))
  clear h
  go_enter Tryz.func55, Tryz.ntmps55
  go_wp2_with fail
  with_reducible refine HN.out.mono ?_
  rintro e w1 ⟨rfl, hb1⟩
  go_wp2_with fail
  go_ret
  exact ⟨rfl, hb1⟩
set_option maxHeartbeats 800000 in
theorem atName_d (C g : Nat) (TS : List Tok) (pv : Value) (st : Sta) (w : World) (h : Dc w C g TS pv st) :
    Calls Tryz.prog 49 #[.pointer (some ⟨C, 0, none⟩)] w (BoolTo (onN st) w) := by
  have HN := Lib.hid (next_d C g TS pv st w h)
  have HT := Lib.hid (onN_nxt st)
  clear h
  generalize hT : nxt st = t at *
  obtain ⟨tk, tx, tn, ta⟩ := t
  simp only at HT
  have q1 := natb tk 1
  have HK := Lib.hid (fun w => (show Calls Tryz.prog 84 #[.string (bs tx)] w (fun e w' => e = .returned (.bool (kwB tx)) ∧ w = w') from keyword_any (bs tx) w))
  cases x1 : tk == 1
  · rw [x1] at q1 HT
    have e1 : (((tk : Nat) : Int) == 1) = false := q1
    clear q1 x1
    go_enter Tryz.func49, Tryz.ntmps49
    go_wp2_with fail
    with_reducible refine HN.out.mono ?_
    rintro e w1 ⟨rfl, hb1⟩
    rw [hT, tokV]
    generalize bs tx = X at *
    go_wp2_with fail
    go_ret
    exact ⟨ret_bool HT.out.symm, hb1.trans ((Below.refl _ _).alloc hb1.size _)⟩
  · rw [x1] at q1 HT
    have e1 : (((tk : Nat) : Int) == 1) = true := q1
    clear q1 x1
    go_enter Tryz.func49, Tryz.ntmps49
    go_wp2_with fail
    with_reducible refine HN.out.mono ?_
    rintro e w1 ⟨rfl, hb1⟩
    rw [hT, tokV]
    generalize bs tx = X at *
    generalize kwB tx = kx at *
    go_wp2_with fail
    with_reducible refine (HK.out _).mono ?_
    rintro e w2 ⟨rfl, rfl⟩
    go_wp2_with fail
    go_ret
    exact ⟨ret_bool HT.out.symm, hb1.trans ((Below.refl _ _).alloc hb1.size _)⟩
end Go.Proofs.YtgobcflfhabdhaaGreatDoor.Lx
