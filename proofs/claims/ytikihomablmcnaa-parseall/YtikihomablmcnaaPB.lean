/-
  Words for memory that the contracts of the document's cursor use: worlds in which one block alone turns, a cursor over tokens.
-/
import Derived.Test.YtikihomablmcnaaLSame
import Derived.Test.YtikihomablmcnaaPA
import Derived.RegionTactic
namespace Go.Proofs.Ytikihomablmcnaa.Lx
open Go.RowKit
open L (Tok)
set_option maxRecDepth 100000
set_option linter.unusedVariables false
set_option linter.unusedSimpArgs false
/-- Of the blocks that were there only those of S may have turned. -/
structure Only (S : Nat → Prop) (w w' : World) : Prop where
  os : w'.os = w.os
  tape : w'.tape = w.tape
  output : w'.output = w.output
  size : w.heap.size ≤ w'.heap.size
  block : ∀ k, k < w.heap.size → ¬ S k → w'.heap[k]? = w.heap[k]?
theorem Only.refl (S : Nat → Prop) (w : World) : Only S w w := ⟨rfl, rfl, rfl, Nat.le_refl _, fun _ _ _ => rfl⟩
theorem Only.trans {S : Nat → Prop} {a b c : World} (h : Only S a b) (k : Only S b c) : Only S a c :=
  ⟨k.os.trans h.os, k.tape.trans h.tape, k.output.trans h.output, Nat.le_trans h.size k.size, fun i hi hs => (k.block i (Nat.lt_of_lt_of_le hi h.size) hs).trans (h.block i hi hs)⟩
theorem Only.drewN {S : Nat → Prop} {a b : World} (h : Only S a b) (n : Nat) : Only S a (b.drewN n) := h.trans ⟨rfl, rfl, rfl, Nat.le_refl _, fun _ _ _ => rfl⟩
theorem Only.drew {S : Nat → Prop} {a b : World} (h : Only S a b) : Only S a b.drew := h.trans ⟨rfl, rfl, rfl, Nat.le_refl _, fun _ _ _ => rfl⟩
theorem Only.alloc {S : Nat → Prop} {a b : World} (h : Only S a b) (o : Obj) : Only S a (b.alloc o) := h.trans ⟨rfl, rfl, rfl, by simp, fun k hk _ => Below.heap_alloc _ _ _ hk⟩
theorem Only.setCell {S : Nat → Prop} {a b : World} (h : Only S a b) {p : Addr} (hp : S p.block ∨ a.heap.size ≤ p.block) (u : Value) : Only S a (b.setCell p u) :=
  ⟨h.os, h.tape, h.output, by simpa [World.setCell] using h.size, fun k hk hs => by
    rw [Below.heap_setCell _ _ _ _ (by rintro rfl; exact hp.elim hs (by omega))]
    exact h.block k hk hs⟩
theorem Only.below {S : Nat → Prop} {w w' : World} {B : Nat} (h : Only S w w') (hB : B ≤ w.heap.size) (hS : ∀ k, k < B → ¬ S k) : Below B w w' :=
  ⟨h.os, h.tape, h.output, h.size, fun k hk => h.block k (by omega) (hS k hk)⟩
theorem Only.of_below {S : Nat → Prop} {w w' : World} (h : Below w.heap.size w w') : Only S w w' :=
  ⟨h.os, h.tape, h.output, h.size, fun k hk _ => h.block k hk⟩
theorem Only.cell {S : Nat → Prop} {w w' : World} (h : Only S w w') {p : Addr} {v : Value} (hc : w.cell? p = some v) (hp : ¬ S p.block) : w'.cell? p = some v := by
  have hb := h.block p.block (World.block_lt_of_cell? w p hc) hp
  have e : w'.cell? p = w.cell? p := by simp only [World.cell?, hb]
  rw [e]
  exact hc
theorem Blk.only {w w' : World} {S : Nat → Prop} {g : Nat} {t : TypeId} {cs : Array Value} (h : Blk w g t cs) (ho : Only S w w') (hg : ¬ S g) : Blk w' g t cs := (ho.block g h.lt hg).trans h
theorem Four.only {w w' : World} {S : Nat → Prop} {g o : Nat} {t : Tok} (h : Four w g o t) (ho : Only S w w') (hg : ¬ S g) : Four w' g o t :=
  ⟨ho.cell h.1 hg, ho.cell h.2.1 hg, ho.cell h.2.2.1 hg, ho.cell h.2.2.2 hg⟩
/-- A cursor at block C over the tokens TS (their row in block g), at place k, with what is wrong and the places. -/
structure Cur (w : World) (C g cap : Nat) (TS : List Tok) (pv : Value) (k : Nat) (bad : Int) : Prop where
  blk : Blk w C 65 #[.slice (some ⟨g, 0, none⟩) TS.length cap, .int .i64 k, .int .i64 bad, pv]
  row : ∀ i, i < TS.length → Four w g (i * 4) (tat TS i)
  ne : g ≠ C
  lt : k < TS.length
  max : TS.length ≤ 10000
  fin : (tat TS (TS.length - 1)).kind = 4
theorem Cur.only {w w' : World} {C g cap : Nat} {TS : List Tok} {pv : Value} {k : Nat} {bad : Int} (h : Cur w C g cap TS pv k bad) (ho : Only (fun _ => False) w w') : Cur w' C g cap TS pv k bad :=
  ⟨h.blk.only ho id, fun i hi => (h.row i hi).only ho id, h.ne, h.lt, h.max, h.fin⟩
theorem Cur.below {w w' : World} {C g cap : Nat} {TS : List Tok} {pv : Value} {k : Nat} {bad : Int} (h : Cur w C g cap TS pv k bad) (hb : Below w.heap.size w w') : Cur w' C g cap TS pv k bad := h.only (.of_below hb)
theorem Cur.set {w : World} {C g cap : Nat} {TS : List Tok} {pv : Value} {k : Nat} {bad : Int} (h : Cur w C g cap TS pv k bad) (k' : Nat) (hk : k' < TS.length) : Cur (w.setCell ⟨C, 1, none⟩ (.int .i64 k')) C g cap TS pv k' bad :=
  ⟨h.blk.set 1 _, fun i hi => (h.row i hi).only (S := fun b => b = C) ((Only.refl (fun b => b = C) w).setCell (p := ⟨C, 1, none⟩) (.inl rfl) _) h.ne, h.ne, hk, h.max, h.fin⟩
theorem Cur.fail {w : World} {C g cap : Nat} {TS : List Tok} {pv : Value} {k : Nat} {bad : Int} (h : Cur w C g cap TS pv k bad) (b' : Int) : Cur (w.setCell ⟨C, 2, none⟩ (.int .i64 b')) C g cap TS pv k b' :=
  ⟨h.blk.set 2 _, fun i hi => (h.row i hi).only (S := fun b => b = C) ((Only.refl (fun b => b = C) w).setCell (p := ⟨C, 2, none⟩) (.inl rfl) _) h.ne, h.ne, h.lt, h.max, h.fin⟩
theorem Cur.drew {w : World} {C g cap : Nat} {TS : List Tok} {pv : Value} {k : Nat} {bad : Int} (h : Cur w C g cap TS pv k bad) : Cur w.drew C g cap TS pv k bad := ⟨h.blk, h.row, h.ne, h.lt, h.max, h.fin⟩
theorem Cur.drewN {w : World} {C g cap : Nat} {TS : List Tok} {pv : Value} {k : Nat} {bad : Int} (h : Cur w C g cap TS pv k bad) (n : Nat) : Cur (w.drewN n) C g cap TS pv k bad := ⟨h.blk, h.row, h.ne, h.lt, h.max, h.fin⟩
/-- What is known of the cursor's cells, and of the token here. -/
theorem Cur.cells {w : World} {C g cap : Nat} {TS : List Tok} {pv : Value} {k : Nat} {bad : Int} (h : Cur w C g cap TS pv k bad) :
    w.cell? ⟨C, 0, none⟩ = some (.slice (some ⟨g, 0, none⟩) TS.length cap) ∧ w.cell? ⟨C, 1, none⟩ = some (.int .i64 k) ∧ w.cell? ⟨C, 2, none⟩ = some (.int .i64 bad) ∧ w.cell? ⟨C, 3, none⟩ = some pv ∧ w.frozen? ⟨C, 1, none⟩ = false ∧ w.frozen? ⟨C, 2, none⟩ = false ∧ w.frozen? ⟨C, 3, none⟩ = false :=
  ⟨h.blk.cell 0, h.blk.cell 1, h.blk.cell 2, h.blk.cell 3, h.blk.free 1, h.blk.free 2, h.blk.free 3⟩
theorem drop_tat {TS : List Tok} {k : Nat} (h : k < TS.length) : TS.drop k = tat TS k :: TS.drop (k + 1) := by
  rw [List.drop_eq_getElem_cons h, tat, List.getD_eq_getElem?_getD, List.getElem?_eq_getElem h]
  rfl
set_option maxHeartbeats 800000 in
theorem wrong_dead (C g cap : Nat) (TS : List Tok) (pv : Value) (k : Nat) (bad : Int) (w : World) (h : Cur w C g cap TS pv k bad) (hb : 0 ≤ bad) :
    Calls Try.prog 40 #[.pointer (some ⟨C, 0, none⟩)] w fun e w' => e = .returned (.tuple #[]) ∧ w = w' := by
  obtain ⟨c0, c1, c2, c3, f1, f2, f3⟩ := h.cells
  have d : decide (bad < 0) = false := by simp; omega
  clear h hb
  go_enter Try.func40, Try.ntmps40
  go_wp2_with fail
  go_end0
  exact ⟨rfl, rfl⟩
/-- The token here is the one that doesn't go on. -/
def WrongTo (C g cap : Nat) (TS : List Tok) (pv : Value) (k p : Nat) (w : World) (e : Ending) (w' : World) : Prop := e = .returned (.tuple #[]) ∧ Cur w' C g cap TS pv k p ∧ Only (· = C) w w'
set_option maxHeartbeats 800000 in
theorem wrong_live (C g cap : Nat) (TS : List Tok) (pv : Value) (k : Nat) (w : World) (h : Cur w C g cap TS pv k (-1)) :
    Calls Try.prog 40 #[.pointer (some ⟨C, 0, none⟩)] w (WrongTo C g cap TS pv k (P.here (TS.drop k)) w) := by
  obtain ⟨c0, c1, c2, c3, f1, f2, f3⟩ := h.cells
  obtain ⟨t0, t1, t2, t3⟩ := h.row k h.lt
  have HE := Lib.hid (show P.here (TS.drop k) = (tat TS k).at' by rw [drop_tat h.lt]; rfl)
  have HC := Lib.hid h
  have hlt := h.lt
  have hmx := h.max
  have hCl := h.blk.lt
  clear h
  generalize tat TS k = t at *
  obtain ⟨tk, tx, tn, ta⟩ := t
  simp only at t0 t1 t2 t3 HE
  have m1 : (0 : Int) ≤ (k : Int) := by omega
  have m2 : (k : Int) < (TS.length : Int) := by omega
  go_enter Try.func40, Try.ntmps40
  go_wp2_with fail
  go_region
  all_goals
    go_wp2
    go_end0
    refine ⟨rfl, ?_, ?_⟩
    · rw [HE.out]
      exact (HC.out.fail _).drew
    · exact ((Only.refl (· = C) w).setCell (p := ⟨C, 2, none⟩) (.inl rfl) _).drew
theorem natb (n m : Nat) : (((n : Nat) : Int) == ((m : Nat) : Int)) = (n == m) := by
  rw [Bool.eq_iff_iff]
  simp
  omega
theorem txb (tx : List UInt8) (s : ByteArray) : ((bs tx).toList == s.toList) = (tx == by' s) := by rw [toList_by, toList_by, by_bs]
set_option maxHeartbeats 800000 in
theorem is_live (C g cap : Nat) (TS : List Tok) (pv : Value) (k : Nat) (s : ByteArray) (w : World) (h : Cur w C g cap TS pv k (-1)) :
    Calls Try.prog 37 #[.pointer (some ⟨C, 0, none⟩), .string s] w (BoolTo (P.isS (by' s) (TS.drop k)) w) := by
  obtain ⟨c0, c1, c2, c3, f1, f2, f3⟩ := h.cells
  obtain ⟨t0, t1, t2, t3⟩ := h.row k h.lt
  have hgl : g < w.heap.size := World.block_lt_of_cell? w _ t0
  rw [drop_tat h.lt]
  have hlt := h.lt
  have hmx := h.max
  have hCl := h.blk.lt
  clear h
  generalize tat TS k = t at *
  obtain ⟨tk, tx, tn, ta⟩ := t
  simp only at t0 t1 t2 t3
  have m1 : (0 : Int) ≤ (k : Int) := by omega
  have m2 : (k : Int) < (TS.length : Int) := by omega
  have q1 := natb tk 1
  have q3 := natb tk 3
  have qt := txb tx s
  have HS : P.isS (by' s) (⟨tk, tx, tn, ta⟩ :: TS.drop (k + 1)) = ((tk == 1 || tk == 3) && tx == by' s) := rfl
  cases x1 : tk == 1 <;> cases x3 : tk == 3 <;> cases xt : tx == by' s
  all_goals
    rw [x1] at q1 HS
    rw [x3] at q3 HS
    rw [xt] at qt HS
    have e1 : (((tk : Nat) : Int) == 1) = _ := q1
    have e3 : (((tk : Nat) : Int) == 3) = _ := q3
    have HH := Lib.hid HS
    clear HS q1 q3 x1 x3 xt
    generalize bs tx = X at *
    go_enter Try.func37, Try.ntmps37
    go_wp2_with fail
    go_region
    all_goals
      go_wp2_with fail
      go_ret
      refine ⟨ret_bool ?_, ?_⟩
      · rw [HH.out]
        rfl
      · first | exact ((Below.refl _ _).alloc (Nat.le_refl _) _).drew | exact below_drewN ((Below.refl _ _).alloc (Nat.le_refl _) _) _
set_option maxHeartbeats 800000 in
theorem is_dead (C g cap : Nat) (TS : List Tok) (pv : Value) (k : Nat) (bad : Int) (s : ByteArray) (w : World) (h : Cur w C g cap TS pv k bad) (hb : 0 ≤ bad) :
    Calls Try.prog 37 #[.pointer (some ⟨C, 0, none⟩), .string s] w (BoolTo false w) := by
  obtain ⟨c0, c1, c2, c3, f1, f2, f3⟩ := h.cells
  obtain ⟨t0, t1, t2, t3⟩ := h.row k h.lt
  have hgl : g < w.heap.size := World.block_lt_of_cell? w _ t0
  have hlt := h.lt
  have hmx := h.max
  have hCl := h.blk.lt
  have d : decide (bad < 0) = false := by simp; omega
  clear h hb
  generalize tat TS k = t at *
  obtain ⟨tk, tx, tn, ta⟩ := t
  simp only at t0 t1 t2 t3
  have m1 : (0 : Int) ≤ (k : Int) := by omega
  have m2 : (k : Int) < (TS.length : Int) := by omega
  generalize bs tx = X at *
  go_enter Try.func37, Try.ntmps37
  go_wp2_with fail
  go_region
  all_goals
    go_wp2_with fail
    go_ret
    refine ⟨rfl, ?_⟩
    first | exact ((Below.refl _ _).alloc (Nat.le_refl _) _).drew | exact below_drewN ((Below.refl _ _).alloc (Nat.le_refl _) _) _
set_option maxHeartbeats 800000 in
theorem isName_live (C g cap : Nat) (TS : List Tok) (pv : Value) (k : Nat) (w : World) (h : Cur w C g cap TS pv k (-1)) :
    Calls Try.prog 65 #[.pointer (some ⟨C, 0, none⟩)] w (BoolTo (P.isN (TS.drop k)) w) := by
  obtain ⟨c0, c1, c2, c3, f1, f2, f3⟩ := h.cells
  obtain ⟨t0, t1, t2, t3⟩ := h.row k h.lt
  have hgl : g < w.heap.size := World.block_lt_of_cell? w _ t0
  rw [drop_tat h.lt]
  have hlt := h.lt
  have hmx := h.max
  have hCl := h.blk.lt
  clear h
  generalize tat TS k = t at *
  obtain ⟨tk, tx, tn, ta⟩ := t
  simp only at t0 t1 t2 t3
  have m1 : (0 : Int) ≤ (k : Int) := by omega
  have m2 : (k : Int) < (TS.length : Int) := by omega
  have q1 := natb tk 1
  have HS : P.isN (⟨tk, tx, tn, ta⟩ :: TS.drop (k + 1)) = (tk == 1 && !kwB tx) := rfl
  have HK := Lib.hid (fun w => (show Calls Try.prog 90 #[.string (bs tx)] w (BoolTo (kwB tx) w) from rkeyword_any (bs tx) w))
  cases x1 : tk == 1
  · rw [x1] at q1 HS
    have e1 : (((tk : Nat) : Int) == 1) = false := q1
    have HH := Lib.hid HS
    clear HS q1 x1
    generalize bs tx = X at *
    go_enter Try.func65, Try.ntmps65
    go_wp2_with fail
    go_region
    all_goals
      go_wp2_with fail
      go_ret
      refine ⟨ret_bool ?_, ?_⟩
      · rw [HH.out]
        rfl
      · first | exact ((Below.refl _ _).alloc (Nat.le_refl _) _).drew | exact below_drewN ((Below.refl _ _).alloc (Nat.le_refl _) _) _
  · rw [x1] at q1 HS
    have e1 : (((tk : Nat) : Int) == 1) = true := q1
    have HH := Lib.hid HS
    clear HS q1 x1
    generalize bs tx = X at *
    generalize kwB tx = kx at *
    go_enter Try.func65, Try.ntmps65
    go_wp2_with fail
    go_region
    all_goals
      go_wp2_with fail
      with_reducible refine (HK.out _).mono ?_
      rintro e w1 ⟨rfl, hb1⟩
      go_wp2_with fail
      go_ret
      refine ⟨ret_bool ?_, ?_⟩
      · rw [HH.out]
        rfl
      · first | exact (((Below.refl _ _).alloc (Nat.le_refl _) _).drew).trans (hb1.mono (by simp)) | exact (below_drewN ((Below.refl _ _).alloc (Nat.le_refl _) _) _).trans (hb1.mono (by simp))
set_option maxHeartbeats 800000 in
theorem isName_dead (C g cap : Nat) (TS : List Tok) (pv : Value) (k : Nat) (bad : Int) (w : World) (h : Cur w C g cap TS pv k bad) (hb : 0 ≤ bad) :
    Calls Try.prog 65 #[.pointer (some ⟨C, 0, none⟩)] w (BoolTo false w) := by
  obtain ⟨c0, c1, c2, c3, f1, f2, f3⟩ := h.cells
  obtain ⟨t0, t1, t2, t3⟩ := h.row k h.lt
  have hgl : g < w.heap.size := World.block_lt_of_cell? w _ t0
  have hlt := h.lt
  have hmx := h.max
  have hCl := h.blk.lt
  have d : decide (bad < 0) = false := by simp; omega
  clear h hb
  generalize tat TS k = t at *
  obtain ⟨tk, tx, tn, ta⟩ := t
  simp only at t0 t1 t2 t3
  have m1 : (0 : Int) ≤ (k : Int) := by omega
  have m2 : (k : Int) < (TS.length : Int) := by omega
  generalize bs tx = X at *
  go_enter Try.func65, Try.ntmps65
  go_wp2_with fail
  go_region
  all_goals
    go_wp2_with fail
    go_ret
    refine ⟨rfl, ?_⟩
    first | exact ((Below.refl _ _).alloc (Nat.le_refl _) _).drew | exact below_drewN ((Below.refl _ _).alloc (Nat.le_refl _) _) _
set_option maxHeartbeats 800000 in
theorem isNumber_live (C g cap : Nat) (TS : List Tok) (pv : Value) (k : Nat) (w : World) (h : Cur w C g cap TS pv k (-1)) :
    Calls Try.prog 66 #[.pointer (some ⟨C, 0, none⟩)] w (BoolTo (P.isD (TS.drop k)) w) := by
  obtain ⟨c0, c1, c2, c3, f1, f2, f3⟩ := h.cells
  obtain ⟨t0, t1, t2, t3⟩ := h.row k h.lt
  rw [drop_tat h.lt]
  have hlt := h.lt
  have hmx := h.max
  have hCl := h.blk.lt
  clear h
  generalize tat TS k = t at *
  obtain ⟨tk, tx, tn, ta⟩ := t
  simp only at t0 t1 t2 t3
  have m1 : (0 : Int) ≤ (k : Int) := by omega
  have m2 : (k : Int) < (TS.length : Int) := by omega
  have q1 := natb tk 2
  have d : decide ((-1 : Int) < 0) = true := by decide
  have HS : P.isD (⟨tk, tx, tn, ta⟩ :: TS.drop (k + 1)) = (tk == 2) := rfl
  cases x1 : tk == 2
  all_goals
    rw [x1] at q1 HS
    have e1 : (((tk : Nat) : Int) == 2) = _ := q1
    have HH := Lib.hid HS
    clear HS q1 x1
    go_enter Try.func66, Try.ntmps66
    go_wp2_with fail
    go_quiet (fail)
    go_wp2_with fail
    go_ret
    refine ⟨ret_bool ?_, below_drewN (Below.refl _ _) _⟩
    rw [HH.out]
set_option maxHeartbeats 800000 in
theorem isNumber_dead (C g cap : Nat) (TS : List Tok) (pv : Value) (k : Nat) (bad : Int) (w : World) (h : Cur w C g cap TS pv k bad) (hb : 0 ≤ bad) :
    Calls Try.prog 66 #[.pointer (some ⟨C, 0, none⟩)] w (BoolTo false w) := by
  obtain ⟨c0, c1, c2, c3, f1, f2, f3⟩ := h.cells
  have d : decide (bad < 0) = false := by simp; omega
  clear h hb
  go_enter Try.func66, Try.ntmps66
  go_wp2_with fail
  go_quiet (fail)
  go_wp2_with fail
  go_ret
  exact ⟨rfl, below_drewN (Below.refl _ _) _⟩
end Go.Proofs.Ytikihomablmcnaa.Lx
/-
  What need, name, number and mode of the document's cursor tell, as contracts.
-/
namespace Go.Proofs.Ytikihomablmcnaa.Lx
open Go.RowKit
open L (Tok)
set_option maxRecDepth 100000
set_option linter.unusedVariables false
set_option linter.unusedSimpArgs false
/-- What is read, told as values say it; or that it doesn't go on. -/
def StepTo {α : Type} (Val : World → Value → α → Prop) (Any : World → Value → Prop) (C g cap : Nat) (TS : List Tok) (pv : Value) (k : Nat) (r : P.Res α) (w : World) (e : Ending) (w' : World) : Prop :=
  match r with
  | .ok (a, ts) => ∃ v k', e = .returned v ∧ Val w' v a ∧ ts = TS.drop k' ∧ k < k' ∧ Cur w' C g cap TS pv k' (-1) ∧ Only (· = C) w w'
  | .error p => ∃ v k', e = .returned v ∧ Any w' v ∧ k ≤ k' ∧ Cur w' C g cap TS pv k' p ∧ Only (· = C) w w'
/-- Nothing goes on any more. -/
def DeadTo (Any : World → Value → Prop) (C g cap : Nat) (TS : List Tok) (pv : Value) (k : Nat) (bad : Int) (w : World) (e : Ending) (w' : World) : Prop := ∃ v, e = .returned v ∧ Any w' v ∧ Cur w' C g cap TS pv k bad ∧ Only (· = C) w w'
theorem Cur.more {w : World} {C g cap : Nat} {TS : List Tok} {pv : Value} {k : Nat} {bad : Int} (h : Cur w C g cap TS pv k bad) (hk : (tat TS k).kind ≠ 4) : k + 1 < TS.length := by
  have := h.lt
  by_cases hlt : k + 1 < TS.length
  · exact hlt
  · exfalso
    obtain rfl : k = TS.length - 1 := by omega
    exact hk h.fin
theorem isS_kind {s : List UInt8} {t : Tok} {r : List Tok} (h : P.isS s (t :: r) = true) : t.kind ≠ 4 := by
  simp only [P.isS, Bool.and_eq_true, Bool.or_eq_true, beq_iff_eq] at h
  omega
theorem isN_kind {t : Tok} {r : List Tok} (h : P.isN (t :: r) = true) : t.kind ≠ 4 := by
  simp only [P.isN, Bool.and_eq_true, beq_iff_eq] at h
  omega
theorem isD_kind {t : Tok} {r : List Tok} (h : P.isD (t :: r) = true) : t.kind ≠ 4 := by
  simp only [P.isD, beq_iff_eq] at h
  omega
theorem Cur.step {w : World} {C g cap : Nat} {TS : List Tok} {pv : Value} {k : Nat} {bad : Int} (h : Cur w C g cap TS pv k bad) (hk : k + 1 < TS.length) : Cur (w.setCell ⟨C, 1, none⟩ (.int .i64 ((k : Int) + 1))) C g cap TS pv (k + 1) bad := h.set (k + 1) hk
theorem Only.step {w : World} {C : Nat} (v : Value) : Only (· = C) w (w.setCell ⟨C, 1, none⟩ v) := (Only.refl (· = C) w).setCell (p := ⟨C, 1, none⟩) (.inl rfl) _
/-- It stood here, or it didn't. -/
def NeedTo (C g cap : Nat) (TS : List Tok) (pv : Value) (k : Nat) (r : Except Nat (List Tok)) (w : World) (e : Ending) (w' : World) : Prop :=
  e = .returned (.tuple #[]) ∧ Only (· = C) w w' ∧
  match r with
  | .ok ts => ts = TS.drop (k + 1) ∧ Cur w' C g cap TS pv (k + 1) (-1)
  | .error p => Cur w' C g cap TS pv k p
set_option maxHeartbeats 800000 in
theorem need_live (C g cap : Nat) (TS : List Tok) (pv : Value) (k : Nat) (s : ByteArray) (w : World) (h : Cur w C g cap TS pv k (-1)) :
    Calls Try.prog 34 #[.pointer (some ⟨C, 0, none⟩), .string s] w (NeedTo C g cap TS pv k (P.need (by' s) (TS.drop k)) w) := by
  have HC := Lib.hid h
  have HI := Lib.hid (is_live C g cap TS pv k s w h)
  have hmx := h.max
  have hlt := h.lt
  unfold P.need
  cases hs : P.isS (by' s) (TS.drop k)
  · rw [hs] at HI
    rw [if_neg (by decide)]
    clear h hs
    go_enter Try.func34, Try.ntmps34
    go_wp2_with fail
    with_reducible refine HI.out.mono ?_
    rintro e w1 ⟨rfl, hb1⟩
    go_wp2_with fail
    with_reducible refine (wrong_live C g cap TS pv k _ (HC.out.below hb1)).mono ?_
    rintro e w2 ⟨rfl, hc2, ho2⟩
    go_wp2_with fail
    go_end0
    exact ⟨rfl, (Only.of_below hb1).trans ho2, hc2⟩
  · have hk1 : k + 1 < TS.length := h.more (isS_kind (by rw [drop_tat hlt] at hs; exact hs))
    have HT := Lib.hid (show (TS.drop k).tail = TS.drop (k + 1) by rw [List.tail_drop])
    rw [hs] at HI
    rw [if_pos rfl]
    clear h hs
    go_enter Try.func34, Try.ntmps34
    go_wp2_with fail
    with_reducible refine HI.out.mono ?_
    rintro e w1 ⟨rfl, hb1⟩
    have HC1 := Lib.hid (HC.out.below hb1)
    obtain ⟨c0, c1, c2, c3, f1, f2, f3⟩ := HC1.out.cells
    go_wp2_with fail
    go_end0
    exact ⟨rfl, (Only.of_below hb1).trans (Only.step _), HT.out, HC1.out.step hk1⟩
set_option maxHeartbeats 800000 in
theorem need_dead (C g cap : Nat) (TS : List Tok) (pv : Value) (k : Nat) (bad : Int) (s : ByteArray) (w : World) (h : Cur w C g cap TS pv k bad) (hb : 0 ≤ bad) :
    Calls Try.prog 34 #[.pointer (some ⟨C, 0, none⟩), .string s] w fun e w' => e = .returned (.tuple #[]) ∧ Below w.heap.size w w' := by
  have HC := Lib.hid h
  have HI := Lib.hid (is_dead C g cap TS pv k bad s w h hb)
  clear h
  go_enter Try.func34, Try.ntmps34
  go_wp2_with fail
  with_reducible refine HI.out.mono ?_
  rintro e w1 ⟨rfl, hb1⟩
  go_wp2_with fail
  with_reducible refine (wrong_dead C g cap TS pv k bad _ (HC.out.below hb1) hb).mono ?_
  rintro e w2 ⟨rfl, rfl⟩
  go_wp2_with fail
  first | (go_end0; exact ⟨rfl, hb1⟩) | exact bodyPost_ret (v := .tuple #[]) (by simp [results, Try.results34, go_sem]) rfl ⟨rfl, hb1⟩
def IsText (w : World) (v : Value) (s : List UInt8) : Prop := v = .string (bs s)
def AnyText (w : World) (v : Value) : Prop := ∃ s, v = .string s
def IsNum (w : World) (v : Value) (n : Nat) : Prop := v = .int .i64 (n : Nat)
def AnyNum (w : World) (v : Value) : Prop := ∃ n : Int, v = .int .i64 n
set_option maxHeartbeats 800000 in
theorem name_live (C g cap : Nat) (TS : List Tok) (pv : Value) (k : Nat) (w : World) (h : Cur w C g cap TS pv k (-1)) :
    Calls Try.prog 35 #[.pointer (some ⟨C, 0, none⟩)] w (StepTo IsText AnyText C g cap TS pv k (P.pName (TS.drop k)) w) := by
  have HC := Lib.hid h
  have HI := Lib.hid (isName_live C g cap TS pv k w h)
  have hmx := h.max
  have hlt := h.lt
  have hd := drop_tat hlt
  cases hs : P.isN (TS.drop k)
  · have HP := Lib.hid (show P.pName (TS.drop k) = .error (P.here (TS.drop k)) by
      rw [hd] at hs ⊢
      show (if P.isN (tat TS k :: TS.drop (k + 1)) then _ else _) = _
      rw [hs]
      rfl)
    rw [HP.out]
    rw [hs] at HI
    clear h hs hd
    go_enter Try.func35, Try.ntmps35
    go_wp2_with fail
    with_reducible refine HI.out.mono ?_
    rintro e w1 ⟨rfl, hb1⟩
    go_wp2_with fail
    with_reducible refine (wrong_live C g cap TS pv k _ (HC.out.below hb1)).mono ?_
    rintro e w2 ⟨rfl, hc2, ho2⟩
    go_wp2_with fail
    go_ret
    exact ⟨_, k, rfl, ⟨_, rfl⟩, Nat.le_refl _, hc2, (Only.of_below hb1).trans ho2⟩
  · have hk1 : k + 1 < TS.length := h.more (isN_kind (by rw [hd] at hs; exact hs))
    have HP := Lib.hid (show P.pName (TS.drop k) = .ok ((tat TS k).text, TS.drop (k + 1)) by
      rw [hd] at hs ⊢
      show (if P.isN (tat TS k :: TS.drop (k + 1)) then _ else _) = _
      rw [hs]
      rfl)
    rw [HP.out]
    rw [hs] at HI
    clear h hs hd
    go_enter Try.func35, Try.ntmps35
    go_wp2_with fail
    with_reducible refine HI.out.mono ?_
    rintro e w1 ⟨rfl, hb1⟩
    have HC1 := Lib.hid (HC.out.below hb1)
    obtain ⟨c0, c1, c2, c3, f1, f2, f3⟩ := HC1.out.cells
    go_upto_region 5 with (fail)
    have HC2 := Lib.hid (HC1.out.step hk1)
    have HO2 := Lib.hid ((Only.of_below (S := (· = C)) hb1).trans (Only.step (.int .i64 ((k : Int) + 1))))
    clear c0 c1 c2 c3 f1 f2 f3 hb1
    generalize w1.setCell ⟨C, 1, none⟩ (.int .i64 ((k : Int) + 1)) = w2 at *
    obtain ⟨c0, c1', c2, c3, f1, f2, f3⟩ := HC2.out.cells
    have c1 : w2.cell? ⟨C, 1, none⟩ = some (.int .i64 ((k : Int) + 1)) := c1'
    clear c1'
    obtain ⟨t0, t1, t2, t3⟩ := HC2.out.row k hlt
    generalize tat TS k = t at *
    obtain ⟨tk, tx, tn, ta⟩ := t
    simp only at t0 t1 t2 t3 HP
    have m1 : (0 : Int) ≤ (k : Int) := by omega
    have m2 : (k : Int) < (TS.length : Int) := by omega
    have m3 : IntKind.i64.wrap ((k : Int) + 1 - 1) = (k : Int) := by
      rw [show (k : Int) + 1 - 1 = (k : Int) by omega]
      exact IntWalk.i64_in _ (by omega)
    go_quiet (fail)
    go_wp2_with fail
    go_ret
    exact ⟨_, k + 1, rfl, rfl, rfl, by omega, HC2.out.drewN _, HO2.out.drewN _⟩
set_option maxHeartbeats 800000 in
theorem name_dead (C g cap : Nat) (TS : List Tok) (pv : Value) (k : Nat) (bad : Int) (w : World) (h : Cur w C g cap TS pv k bad) (hb : 0 ≤ bad) :
    Calls Try.prog 35 #[.pointer (some ⟨C, 0, none⟩)] w (DeadTo AnyText C g cap TS pv k bad w) := by
  have HC := Lib.hid h
  have HI := Lib.hid (isName_dead C g cap TS pv k bad w h hb)
  clear h
  go_enter Try.func35, Try.ntmps35
  go_wp2_with fail
  with_reducible refine HI.out.mono ?_
  rintro e w1 ⟨rfl, hb1⟩
  go_wp2_with fail
  with_reducible refine (wrong_dead C g cap TS pv k bad _ (HC.out.below hb1) hb).mono ?_
  rintro e w2 ⟨rfl, rfl⟩
  go_wp2_with fail
  go_ret
  exact ⟨_, rfl, ⟨_, rfl⟩, HC.out.below hb1, Only.of_below hb1⟩
set_option maxHeartbeats 800000 in
theorem number_live (C g cap : Nat) (TS : List Tok) (pv : Value) (k : Nat) (w : World) (h : Cur w C g cap TS pv k (-1)) :
    Calls Try.prog 36 #[.pointer (some ⟨C, 0, none⟩)] w (StepTo IsNum AnyNum C g cap TS pv k (P.pNum (TS.drop k)) w) := by
  have HC := Lib.hid h
  have HI := Lib.hid (isNumber_live C g cap TS pv k w h)
  have hmx := h.max
  have hlt := h.lt
  have hd := drop_tat hlt
  cases hs : P.isD (TS.drop k)
  · have HP := Lib.hid (show P.pNum (TS.drop k) = .error (P.here (TS.drop k)) by
      rw [hd] at hs ⊢
      show (if P.isD (tat TS k :: TS.drop (k + 1)) then _ else _) = _
      rw [hs]
      rfl)
    rw [HP.out]
    rw [hs] at HI
    clear h hs hd
    go_enter Try.func36, Try.ntmps36
    go_wp2_with fail
    with_reducible refine HI.out.mono ?_
    rintro e w1 ⟨rfl, hb1⟩
    go_wp2_with fail
    with_reducible refine (wrong_live C g cap TS pv k _ (HC.out.below hb1)).mono ?_
    rintro e w2 ⟨rfl, hc2, ho2⟩
    go_wp2_with fail
    go_ret
    exact ⟨_, k, rfl, ⟨_, rfl⟩, Nat.le_refl _, hc2, (Only.of_below hb1).trans ho2⟩
  · have hk1 : k + 1 < TS.length := h.more (isD_kind (by rw [hd] at hs; exact hs))
    have HP := Lib.hid (show P.pNum (TS.drop k) = .ok ((tat TS k).n, TS.drop (k + 1)) by
      rw [hd] at hs ⊢
      show (if P.isD (tat TS k :: TS.drop (k + 1)) then _ else _) = _
      rw [hs]
      rfl)
    rw [HP.out]
    rw [hs] at HI
    clear h hs hd
    go_enter Try.func36, Try.ntmps36
    go_wp2_with fail
    with_reducible refine HI.out.mono ?_
    rintro e w1 ⟨rfl, hb1⟩
    have HC1 := Lib.hid (HC.out.below hb1)
    obtain ⟨c0, c1, c2, c3, f1, f2, f3⟩ := HC1.out.cells
    go_upto_region 5 with (fail)
    have HC2 := Lib.hid (HC1.out.step hk1)
    have HO2 := Lib.hid ((Only.of_below (S := (· = C)) hb1).trans (Only.step (.int .i64 ((k : Int) + 1))))
    clear c0 c1 c2 c3 f1 f2 f3 hb1
    generalize w1.setCell ⟨C, 1, none⟩ (.int .i64 ((k : Int) + 1)) = w2 at *
    obtain ⟨c0, c1', c2, c3, f1, f2, f3⟩ := HC2.out.cells
    have c1 : w2.cell? ⟨C, 1, none⟩ = some (.int .i64 ((k : Int) + 1)) := c1'
    clear c1'
    obtain ⟨t0, t1, t2, t3⟩ := HC2.out.row k hlt
    generalize tat TS k = t at *
    obtain ⟨tk, tx, tn, ta⟩ := t
    simp only at t0 t1 t2 t3 HP
    have m1 : (0 : Int) ≤ (k : Int) := by omega
    have m2 : (k : Int) < (TS.length : Int) := by omega
    have m3 : IntKind.i64.wrap ((k : Int) + 1 - 1) = (k : Int) := by
      rw [show (k : Int) + 1 - 1 = (k : Int) by omega]
      exact IntWalk.i64_in _ (by omega)
    go_quiet (fail)
    go_wp2_with fail
    go_ret
    exact ⟨_, k + 1, rfl, rfl, rfl, by omega, HC2.out.drewN _, HO2.out.drewN _⟩
set_option maxHeartbeats 800000 in
theorem number_dead (C g cap : Nat) (TS : List Tok) (pv : Value) (k : Nat) (bad : Int) (w : World) (h : Cur w C g cap TS pv k bad) (hb : 0 ≤ bad) :
    Calls Try.prog 36 #[.pointer (some ⟨C, 0, none⟩)] w (DeadTo AnyNum C g cap TS pv k bad w) := by
  have HC := Lib.hid h
  have HI := Lib.hid (isNumber_dead C g cap TS pv k bad w h hb)
  clear h
  go_enter Try.func36, Try.ntmps36
  go_wp2_with fail
  with_reducible refine HI.out.mono ?_
  rintro e w1 ⟨rfl, hb1⟩
  go_wp2_with fail
  with_reducible refine (wrong_dead C g cap TS pv k bad _ (HC.out.below hb1) hb).mono ?_
  rintro e w2 ⟨rfl, rfl⟩
  go_wp2_with fail
  go_ret
  exact ⟨_, rfl, ⟨_, rfl⟩, HC.out.below hb1, Only.of_below hb1⟩
theorem mode_text : ∀ m : Nat, m < 5 → ∃ b : ByteArray, b = bs (P.modeT m) := fun m _ => ⟨_, rfl⟩
set_option maxHeartbeats 800000 in
theorem modeT_any (m : Nat) (w : World) (hm : m < 5) : Calls Try.prog 47 #[.int .i64 (m : Nat)] w fun e w' => e = .returned (.string (bs (P.modeT m))) ∧ w = w' := by
  have h5 : m = 0 ∨ m = 1 ∨ m = 2 ∨ m = 3 ∨ m = 4 := by omega
  rcases h5 with rfl | rfl | rfl | rfl | rfl
  all_goals
    clear hm
    go_enter Try.func47, Try.ntmps47
    go_wp2_with fail
    go_ret
    exact ⟨rfl, rfl⟩
/-- So many modes don't stand here. -/
def ModeR (C g cap : Nat) (TS : List Tok) (pv : Value) (k : Nat) (w0 : World) (t : Value) (wr : World) : Prop :=
  ∃ j : Nat, t = .int .i64 j ∧ j ≤ 5 ∧ P.pMode (TS.drop k) = P.pModeL (5 - j) j (TS.drop k) ∧ Cur wr C g cap TS pv k (-1) ∧ Below w0.heap.size w0 wr
set_option maxHeartbeats 1600000 in
theorem mode_live (C g cap : Nat) (TS : List Tok) (pv : Value) (k : Nat) (w : World) (h : Cur w C g cap TS pv k (-1)) :
    Calls Try.prog 91 #[.pointer (some ⟨C, 0, none⟩)] w (StepTo IsNum AnyNum C g cap TS pv k (P.pMode (TS.drop k)) w) := by
  have HC := Lib.hid h
  have hmx := h.max
  have hlt := h.lt
  have HD := Lib.hid (drop_tat hlt)
  clear h
  go_enter Try.func91, Try.ntmps91
  go_wp2_with fail
  go_loopw [3] (fun t wr => ModeR C g cap TS pv k w t wr) (fun t _ => 5 - (intOf t).toNat)
  case atStart => exact ⟨0, rfl, by omega, rfl, HC.out, Below.refl _ _⟩
  case round =>
    obtain ⟨j, rfl, hj, hp, hc, hb⟩ := hrel
    have HC1 := Lib.hid hc
    have HB1 := Lib.hid hb
    have hszr := hb.size
    clear hc hb
    by_cases hjl : j < 5
    · have d1 : decide ((j : Int) ≤ 4) = true := by simp; omega
      have HM := Lib.hid (fun w => modeT_any j w hjl)
      have HI := Lib.hid (is_live C g cap TS pv k (bs (P.modeT j)) wr HC1.out)
      rw [by_bs] at HI
      cases hs : P.isS (P.modeT j) (TS.drop k)
      · have HP := Lib.hid (show P.pMode (TS.drop k) = P.pModeL (5 - (j + 1)) (j + 1) (TS.drop k) by
          rw [hp, show 5 - j = (5 - (j + 1)) + 1 by omega]
          show (if P.isS (P.modeT j) (TS.drop k) then _ else _) = _
          rw [hs]
          rfl)
        rw [hs] at HI
        clear hp hs
        go_wp2_with fail
        with_reducible refine (HM.out _).mono ?_
        rintro e w' ⟨rfl, rfl⟩
        go_wp2_with fail
        with_reducible refine HI.out.mono ?_
        rintro e w2 ⟨rfl, hb2⟩
        go_wp2_with fail
        go_roundw
        case rel => exact ⟨j + 1, by go_num, by omega, HP.out, HC1.out.below hb2, HB1.out.trans (hb2.mono hszr)⟩
        case measure => simp [intOf]; omega
      · have hk1 : k + 1 < TS.length := HC1.out.more (isS_kind (by rw [HD.out] at hs; exact hs))
        have HP := Lib.hid (show P.pMode (TS.drop k) = .ok (j, TS.drop (k + 1)) by
          rw [hp, show 5 - j = (5 - (j + 1)) + 1 by omega]
          show (if P.isS (P.modeT j) (TS.drop k) then _ else _) = _
          rw [hs, if_pos rfl, List.tail_drop])
        rw [HP.out]
        rw [hs] at HI
        clear hp hs
        go_wp2_with fail
        with_reducible refine (HM.out _).mono ?_
        rintro e w' ⟨rfl, rfl⟩
        go_wp2_with fail
        with_reducible refine HI.out.mono ?_
        rintro e w2 ⟨rfl, hb2⟩
        have HC2 := Lib.hid (HC1.out.below hb2)
        obtain ⟨c0, c1, c2, c3, f1, f2, f3⟩ := HC2.out.cells
        go_wp2_with fail
        go_ret
        exact ⟨_, k + 1, rfl, rfl, rfl, by omega, HC2.out.step hk1, (Only.of_below (HB1.out.trans (hb2.mono hszr))).trans (Only.step _)⟩
    · obtain rfl : 5 = j := by omega
      have HP := Lib.hid (show P.pMode (TS.drop k) = .error (P.here (TS.drop k)) from hp)
      clear hp
      go_wp2_with fail
      with_reducible refine (wrong_live C g cap TS pv k _ HC1.out).mono ?_
      rintro e w2 ⟨rfl, hc2, ho2⟩
      go_wp2_with fail
      go_ret
      rw [HP.out]
      exact ⟨_, k, rfl, ⟨_, rfl⟩, Nat.le_refl _, hc2, (Only.of_below HB1.out).trans ho2⟩
set_option maxHeartbeats 1600000 in
theorem mode_dead (C g cap : Nat) (TS : List Tok) (pv : Value) (k : Nat) (bad : Int) (w : World) (h : Cur w C g cap TS pv k bad) (hbad : 0 ≤ bad) :
    Calls Try.prog 91 #[.pointer (some ⟨C, 0, none⟩)] w (DeadTo AnyNum C g cap TS pv k bad w) := by
  have HC := Lib.hid h
  clear h
  go_enter Try.func91, Try.ntmps91
  go_wp2_with fail
  go_loopw [3] (fun t wr => (∃ j : Nat, t = .int .i64 j ∧ j ≤ 5) ∧ Below w.heap.size w wr) (fun t _ => 5 - (intOf t).toNat)
  case atStart => exact ⟨⟨0, rfl, by omega⟩, Below.refl _ _⟩
  case round =>
    obtain ⟨⟨j, rfl, hj⟩, hb⟩ := hrel
    have HB1 := Lib.hid hb
    have HC1 := Lib.hid (HC.out.below hb)
    have hszr := hb.size
    clear hb
    by_cases hjl : j < 5
    · have d1 : decide ((j : Int) ≤ 4) = true := by simp; omega
      have HM := Lib.hid (fun w => modeT_any j w hjl)
      have HI := Lib.hid (is_dead C g cap TS pv k bad (bs (P.modeT j)) wr HC1.out hbad)
      go_wp2_with fail
      with_reducible refine (HM.out _).mono ?_
      rintro e w' ⟨rfl, rfl⟩
      go_wp2_with fail
      with_reducible refine HI.out.mono ?_
      rintro e w2 ⟨rfl, hb2⟩
      go_wp2_with fail
      go_roundw
      case rel => exact ⟨⟨j + 1, by go_num, by omega⟩, HB1.out.trans (hb2.mono hszr)⟩
      case measure => simp [intOf]; omega
    · have d1 : decide ((j : Int) ≤ 4) = false := by simp; omega
      go_wp2_with fail
      with_reducible refine (wrong_dead C g cap TS pv k bad _ HC1.out hbad).mono ?_
      rintro e w2 ⟨rfl, rfl⟩
      go_wp2_with fail
      go_ret
      exact ⟨_, rfl, ⟨_, rfl⟩, HC1.out, Only.of_below HB1.out⟩
end Go.Proofs.Ytikihomablmcnaa.Lx
/-
  How expressions lie in memory.
-/
namespace Go.Proofs.Ytikihomablmcnaa.Lx
open Go.RowKit
open L (Tok)
open P (EX)
set_option maxRecDepth 100000
set_option linter.unusedVariables false
set_option linter.unusedSimpArgs false
mutual
/-- v is the expression, its kids in blocks of Q. -/
def LX (Q : Nat → Prop) (w : World) (v : Value) : EX → Prop
  | .mk o m s ks => ∃ a cap, v = .agg #[.int .i64 o, .int .i64 m, .string (bs s), .slice a ks.length cap] ∧ ks.length ≤ maxLen ∧ (ks = [] ∨ ∃ g off, a = some ⟨g, off, none⟩ ∧ Q g ∧ LXs Q w g off ks)
/-- Expressions side by side. -/
def LXs (Q : Nat → Prop) (w : World) (g off : Nat) : List EX → Prop
  | [] => True
  | e :: es => (∃ c0 c1 c2 c3, w.cell? ⟨g, off, none⟩ = some c0 ∧ w.cell? ⟨g, off + 1, none⟩ = some c1 ∧ w.cell? ⟨g, off + 2, none⟩ = some c2 ∧ w.cell? ⟨g, off + 3, none⟩ = some c3 ∧ LX Q w (.agg #[c0, c1, c2, c3]) e) ∧ LXs Q w g (off + 4) es
end
/-- All blocks of Q that were there are as they were. -/
def Keeps (Q : Nat → Prop) (w w' : World) : Prop := ∀ g, Q g → g < w.heap.size → w'.heap[g]? = w.heap[g]?
theorem Keeps.cell {Q : Nat → Prop} {w w' : World} (h : Keeps Q w w') {g o : Nat} {v : Value} (hg : Q g) (hc : w.cell? ⟨g, o, none⟩ = some v) : w'.cell? ⟨g, o, none⟩ = some v := by
  have hb := h g hg (World.block_lt_of_cell? w ⟨g, o, none⟩ hc)
  have e : w'.cell? ⟨g, o, none⟩ = w.cell? ⟨g, o, none⟩ := by simp only [World.cell?, hb]
  rw [e]
  exact hc
theorem Keeps.only {S Q : Nat → Prop} {w w' : World} (h : Only S w w') (hS : ∀ g, Q g → ¬ S g) : Keeps Q w w' := fun g hg hl => h.block g hl (hS g hg)
theorem Keeps.below {Q : Nat → Prop} {B : Nat} {w w' : World} (h : Below B w w') (hB : w.heap.size ≤ B) : Keeps Q w w' := fun g hg hl => h.block g (by omega)
mutual
theorem LX.keep {Q : Nat → Prop} {w w' : World} (h : Keeps Q w w') : ∀ (e : EX) {v : Value}, LX Q w v e → LX Q w' v e
  | .mk o m s ks, v, hv => by
    unfold LX at hv ⊢
    obtain ⟨a, cap, rfl, hm, hk⟩ := hv
    refine ⟨a, cap, rfl, hm, ?_⟩
    rcases hk with hk | ⟨g, off, ha, hg, hs⟩
    · exact .inl hk
    · exact .inr ⟨g, off, ha, hg, LXs.keep h ks hg hs⟩
theorem LXs.keep {Q : Nat → Prop} {w w' : World} (h : Keeps Q w w') : ∀ (es : List EX) {g off : Nat}, Q g → LXs Q w g off es → LXs Q w' g off es
  | [], g, off, hg, hv => by
    unfold LXs
    trivial
  | e :: es, g, off, hg, hv => by
    unfold LXs at hv ⊢
    obtain ⟨⟨c0, c1, c2, c3, h0, h1, h2, h3, hx⟩, hs⟩ := hv
    exact ⟨⟨c0, c1, c2, c3, h.cell hg h0, h.cell hg h1, h.cell hg h2, h.cell hg h3, LX.keep h e hx⟩, LXs.keep h es hg hs⟩
end
mutual
/-- Blocks of Q that are there are of Q'. -/
theorem LX.mono {Q Q' : Nat → Prop} {w : World} (h : ∀ g, Q g → g < w.heap.size → Q' g) : ∀ (e : EX) {v : Value}, LX Q w v e → LX Q' w v e
  | .mk o m s ks, v, hv => by
    unfold LX at hv ⊢
    obtain ⟨a, cap, rfl, hm, hk⟩ := hv
    refine ⟨a, cap, rfl, hm, ?_⟩
    rcases hk with hk | ⟨g, off, ha, hg, hs⟩
    · exact .inl hk
    · cases ks with
      | nil => exact .inl rfl
      | cons x xs =>
        have hl : g < w.heap.size := by
          unfold LXs at hs
          obtain ⟨⟨c0, _, _, _, h0, _⟩, _⟩ := hs
          exact World.block_lt_of_cell? w ⟨g, off, none⟩ h0
        exact .inr ⟨g, off, ha, h g hg hl, LXs.mono h (x :: xs) hs⟩
theorem LXs.mono {Q Q' : Nat → Prop} {w : World} (h : ∀ g, Q g → g < w.heap.size → Q' g) : ∀ (es : List EX) {g off : Nat}, LXs Q w g off es → LXs Q' w g off es
  | [], g, off, hv => by
    unfold LXs
    trivial
  | e :: es, g, off, hv => by
    unfold LXs at hv ⊢
    obtain ⟨⟨c0, c1, c2, c3, h0, h1, h2, h3, hx⟩, hs⟩ := hv
    exact ⟨⟨c0, c1, c2, c3, h0, h1, h2, h3, LX.mono h e hx⟩, LXs.mono h es hs⟩
end
/-- Blocks made since. -/
def From (b : Nat) (g : Nat) : Prop := b ≤ g
/-- v has an expression's form. -/
def AnyX (w : World) (v : Value) : Prop := ∃ (o m : Int) (s : ByteArray) (a : Option Addr) (n c : Nat), v = .agg #[.int .i64 o, .int .i64 m, .string s, .slice a n c]
theorem LX.any {Q : Nat → Prop} {w : World} {v : Value} {e : EX} (h : LX Q w v e) : ∃ (o m : Int) (s : ByteArray) (a : Option Addr) (n c : Nat), v = .agg #[.int .i64 o, .int .i64 m, .string s, .slice a n c] := by
  cases e with
  | mk o m s ks =>
    unfold LX at h
    obtain ⟨a, cap, rfl, _⟩ := h
    exact ⟨_, _, _, _, _, _, rfl⟩
theorem lx_leaf (Q : Nat → Prop) (w : World) (o m : Int) (s : List UInt8) (a : Option Addr) (c : Nat) : LX Q w (.agg #[.int .i64 o, .int .i64 m, .string (bs s), .slice a 0 c]) (.mk o m s []) := by
  unfold LX
  exact ⟨a, c, rfl, Nat.zero_le _, .inl rfl⟩
/-- Two expressions in a block of their own make one. -/
theorem lx_two {Q : Nat → Prop} {g : Nat} {w : World} {o m : Int} {s : List UInt8} {c : Nat} {x y : EX} {x0 x1 x2 x3 y0 y1 y2 y3 : Value} (hg : Q g) (hB : Blk w g 93 #[x0, x1, x2, x3, y0, y1, y2, y3])
    (hx : LX Q w (.agg #[x0, x1, x2, x3]) x) (hy : LX Q w (.agg #[y0, y1, y2, y3]) y) : LX Q w (.agg #[.int .i64 o, .int .i64 m, .string (bs s), .slice (some ⟨g, 0, none⟩) 2 c]) (.mk o m s [x, y]) := by
  unfold LX
  refine ⟨_, c, rfl, show 2 ≤ maxLen by decide, .inr ⟨g, 0, rfl, hg, ?_⟩⟩
  unfold LXs
  refine ⟨⟨x0, x1, x2, x3, hB.cell 0, hB.cell 1, hB.cell 2, hB.cell 3, hx⟩, ?_⟩
  unfold LXs
  refine ⟨⟨y0, y1, y2, y3, hB.cell 4, hB.cell 5, hB.cell 6, hB.cell 7, hy⟩, ?_⟩
  unfold LXs
  trivial
theorem Blk.live' {w w' : World} {g : Nat} {t : TypeId} {cs : Array Value} (h : Blk w g t cs) (hb : Below w.heap.size w w') : Blk w' g t cs := h.below hb h.lt
theorem put4 {w : World} {R : Nat} {t : TypeId} {a b c d a' b' c' d' : Value} (h : Blk w R t #[a, b, c, d]) : Blk ((((w.setCell ⟨R, 0, none⟩ a').setCell ⟨R, 1, none⟩ b').setCell ⟨R, 2, none⟩ c').setCell ⟨R, 3, none⟩ d') R t #[a', b', c', d'] := (((h.set 0 a').set 1 b').set 2 c').set 3 d'
theorem Only.put4 {S : Nat → Prop} {a b : World} (h : Only S a b) {R : Nat} (hR : S R ∨ a.heap.size ≤ R) (u0 u1 u2 u3 : Value) : Only S a ((((b.setCell ⟨R, 0, none⟩ u0).setCell ⟨R, 1, none⟩ u1).setCell ⟨R, 2, none⟩ u2).setCell ⟨R, 3, none⟩ u3) :=
  (((h.setCell (p := ⟨R, 0, none⟩) hR _).setCell (p := ⟨R, 1, none⟩) hR _).setCell (p := ⟨R, 2, none⟩) hR _).setCell (p := ⟨R, 3, none⟩) hR _
theorem Cur.other {w w' : World} {C g cap : Nat} {TS : List Tok} {pv : Value} {k : Nat} {bad : Int} (h : Cur w C g cap TS pv k bad) {S : Nat → Prop} (ho : Only S w w') (hC : ¬ S C) (hg : ¬ S g) : Cur w' C g cap TS pv k bad :=
  ⟨h.blk.only ho hC, fun i hi => (h.row i hi).only ho hg, h.ne, h.lt, h.max, h.fin⟩
theorem Cur.lts {w : World} {C g cap : Nat} {TS : List Tok} {pv : Value} {k : Nat} {bad : Int} (h : Cur w C g cap TS pv k bad) : C < w.heap.size ∧ g < w.heap.size := ⟨h.blk.lt, World.block_lt_of_cell? w ⟨g, k * 4, none⟩ (h.row k h.lt).1⟩
end Go.Proofs.Ytikihomablmcnaa.Lx
/-
  What atom of the document's cursor tells, as a contract.
-/
namespace Go.Proofs.Ytikihomablmcnaa.Lx
open Go.RowKit
open L (Tok)
open P (EX)
set_option maxRecDepth 100000
set_option linter.unusedVariables false
set_option linter.unusedSimpArgs false
/-- What an expression's reader tells. -/
abbrev XTo (C g cap : Nat) (TS : List Tok) (pv : Value) (k : Nat) (r : P.Res EX) (w : World) : Ending → World → Prop := StepTo (LX (From w.heap.size)) AnyX C g cap TS pv k r w
/-- The zero expression's cells. -/
abbrev zx : Array Value := #[.int .i64 0, .int .i64 0, .string ⟨#[]⟩, .slice none 0 0]
theorem num_d {TS : List Tok} {k : Nat} (hlt : k < TS.length) (h : P.isD (TS.drop k) = true) : P.pNum (TS.drop k) = .ok ((tat TS k).n, TS.drop (k + 1)) := by
  rw [drop_tat hlt] at h ⊢
  show (if P.isD (tat TS k :: TS.drop (k + 1)) then _ else _) = _
  rw [h]
  rfl
theorem num_no {TS : List Tok} {k : Nat} (hlt : k < TS.length) (h : P.isD (TS.drop k) = false) : P.pNum (TS.drop k) = .error (P.here (TS.drop k)) := by
  rw [drop_tat hlt] at h ⊢
  show (if P.isD (tat TS k :: TS.drop (k + 1)) then _ else _) = _
  rw [h]
  rfl
theorem name_n {TS : List Tok} {k : Nat} (hlt : k < TS.length) (h : P.isN (TS.drop k) = true) : P.pName (TS.drop k) = .ok ((tat TS k).text, TS.drop (k + 1)) := by
  rw [drop_tat hlt] at h ⊢
  show (if P.isN (tat TS k :: TS.drop (k + 1)) then _ else _) = _
  rw [h]
  rfl
theorem name_nn {TS : List Tok} {k : Nat} (hlt : k < TS.length) (h : P.isN (TS.drop k) = false) : P.pName (TS.drop k) = .error (P.here (TS.drop k)) := by
  rw [drop_tat hlt] at h ⊢
  show (if P.isN (tat TS k :: TS.drop (k + 1)) then _ else _) = _
  rw [h]
  rfl
theorem four_free {w : World} {g : Nat} {t : TypeId} {a b c d : Value} (h : Blk w g t #[a, b, c, d]) : w.cell? ⟨g, 0, none⟩ = some a ∧ w.cell? ⟨g, 1, none⟩ = some b ∧ w.cell? ⟨g, 2, none⟩ = some c ∧ w.cell? ⟨g, 3, none⟩ = some d ∧ w.frozen? ⟨g, 0, none⟩ = false ∧ w.frozen? ⟨g, 1, none⟩ = false ∧ w.frozen? ⟨g, 2, none⟩ = false ∧ w.frozen? ⟨g, 3, none⟩ = false := ⟨h.cell 0, h.cell 1, h.cell 2, h.cell 3, h.free 0, h.free 1, h.free 2, h.free 3⟩
theorem Cur.put4 {w : World} {C g cap : Nat} {TS : List Tok} {pv : Value} {k : Nat} {bad : Int} (h : Cur w C g cap TS pv k bad) {R : Nat} (hC : ¬ C = R) (hg : ¬ g = R) (u0 u1 u2 u3 : Value) : Cur ((((w.setCell ⟨R, 0, none⟩ u0).setCell ⟨R, 1, none⟩ u1).setCell ⟨R, 2, none⟩ u2).setCell ⟨R, 3, none⟩ u3) C g cap TS pv k bad :=
  h.other (S := fun b => b = R) (Only.put4 (Only.refl (fun b => b = R) w) (.inl rfl) u0 u1 u2 u3) hC hg
set_option maxHeartbeats 1600000 in
theorem atom_num (C g cap : Nat) (TS : List Tok) (pv : Value) (k : Nat) (rec : List Tok → P.Res EX) (w : World) (h : Cur w C g cap TS pv k (-1)) (hd : P.isD (TS.drop k) = true) :
    Calls Try.prog 115 #[.pointer (some ⟨C, 0, none⟩)] w (XTo C g cap TS pv k (P.atomF rec (TS.drop k)) w) := by
  have hlt := h.lt
  obtain ⟨hCl, hgl⟩ := h.lts
  have HA := Lib.hid (show P.atomF rec (TS.drop k) = .ok (.mk 1 (tat TS k).n [] [], TS.drop (k + 1)) by unfold P.atomF; rw [num_d hlt hd])
  have HC := Lib.hid h
  have HD := Lib.hid hd
  have HN := Lib.hid (num_d hlt hd)
  clear h hd
  go_enter Try.func115, Try.ntmps115
  go_wp2_with fail
  have HC0 := Lib.hid (HC.out.below (w' := w.alloc (.cells zx 93)) ((Below.refl _ _).alloc (Nat.le_refl _) _))
  have HO0 := Lib.hid ((Only.refl (· = C) w).alloc (.cells zx 93))
  have HB0 := Lib.hid (Blk.new w 93 zx)
  generalize w.alloc (.cells zx 93) = w0 at *
  with_reducible refine (isNumber_live C g cap TS pv k _ HC0.out).mono ?_
  rintro e w1 ⟨rfl, hb1⟩
  rw [HD.out]
  have HC1 := Lib.hid (HC0.out.below hb1)
  have HO1 := Lib.hid (HO0.out.trans (Only.of_below hb1))
  have HB1 := Lib.hid (HB0.out.live' hb1)
  clear hb1
  go_wp2_with fail
  have hnum := number_live C g cap TS pv k _ HC1.out
  rw [HN.out] at hnum
  with_reducible refine hnum.mono ?_
  clear hnum
  rintro e w2 ⟨v, k', rfl, hv, hdr, hkk, hc2, ho2⟩
  obtain rfl : v = _ := hv
  have HB2 := Lib.hid (HB1.out.only ho2 (by omega))
  obtain ⟨c0, c1, c2, c3, f0, f1, f2, f3⟩ := four_free HB2.out
  have HC2 := Lib.hid hc2
  have HO2 := Lib.hid (HO1.out.trans ho2)
  have HDR := Lib.hid hdr
  clear hc2 ho2 hdr
  go_wp2_with fail
  refine bodyPost_ret (results_cell_row (p := 2) rfl _ _ w.heap.size 93 #[.int .i64 1, .int .i64 ((tat TS k).n : Nat), .string ⟨#[]⟩, .slice none 0 0] (0, 0) _ rfl (put4 HB2.out) Try.underlying93 rfl (by kernel_rfl)) rfl ?_
  rw [HA.out]
  exact ⟨_, k', rfl, lx_leaf _ _ _ _ [] _ _, HDR.out, hkk, HC2.out.put4 (by omega) (by omega) _ _ _ _, Only.put4 HO2.out (.inr (Nat.le_refl _)) _ _ _ _⟩
set_option maxHeartbeats 1600000 in
theorem atom_name (C g cap : Nat) (TS : List Tok) (pv : Value) (k : Nat) (rec : List Tok → P.Res EX) (w : World) (h : Cur w C g cap TS pv k (-1)) (hd : P.isD (TS.drop k) = false) (hn : P.isN (TS.drop k) = true) :
    Calls Try.prog 115 #[.pointer (some ⟨C, 0, none⟩)] w (XTo C g cap TS pv k (P.atomF rec (TS.drop k)) w) := by
  have hlt := h.lt
  obtain ⟨hCl, hgl⟩ := h.lts
  have HA := Lib.hid (show P.atomF rec (TS.drop k) = .ok (.mk 2 0 (tat TS k).text [], TS.drop (k + 1)) by unfold P.atomF; rw [num_no hlt hd, name_n hlt hn])
  have HC := Lib.hid h
  have HD := Lib.hid hd
  have HN := Lib.hid hn
  have HNN := Lib.hid (name_n hlt hn)
  clear h hd hn
  go_enter Try.func115, Try.ntmps115
  go_wp2_with fail
  have HC0 := Lib.hid (HC.out.below (w' := w.alloc (.cells zx 93)) ((Below.refl _ _).alloc (Nat.le_refl _) _))
  have HO0 := Lib.hid ((Only.refl (· = C) w).alloc (.cells zx 93))
  have HB0 := Lib.hid (Blk.new w 93 zx)
  have hsA : w.heap.size < (w.alloc (.cells zx 93)).heap.size := HB0.out.lt
  generalize w.alloc (.cells zx 93) = w0 at *
  with_reducible refine (isNumber_live C g cap TS pv k _ HC0.out).mono ?_
  rintro e w1 ⟨rfl, hb1⟩
  rw [HD.out]
  have HC1 := Lib.hid (HC0.out.below hb1)
  have HO1 := Lib.hid (HO0.out.trans (Only.of_below hb1))
  have HB1 := Lib.hid (HB0.out.live' hb1)
  have hs1 := hb1.size
  clear hb1
  go_wp2_with fail
  with_reducible refine (isName_live C g cap TS pv k _ HC1.out).mono ?_
  rintro e w2 ⟨rfl, hb2⟩
  rw [HN.out]
  have HC2 := Lib.hid (HC1.out.below hb2)
  have HO2 := Lib.hid (HO1.out.trans (Only.of_below hb2))
  have HB2 := Lib.hid (HB1.out.live' hb2)
  have hs2 := hb2.size
  clear hb2
  go_wp2_with fail
  have hnm := name_live C g cap TS pv k _ HC2.out
  rw [HNN.out] at hnm
  with_reducible refine hnm.mono ?_
  clear hnm
  rintro e w3 ⟨v, k', rfl, hv, hdr, hkk, hc3, ho3⟩
  obtain rfl : v = _ := hv
  have HB3 := Lib.hid (HB2.out.only ho3 (by omega))
  obtain ⟨c0, c1, c2, c3, f0, f1, f2, f3⟩ := four_free HB3.out
  have HC3 := Lib.hid hc3
  have HO3 := Lib.hid (HO2.out.trans ho3)
  have HDR := Lib.hid hdr
  clear hc3 ho3 hdr
  generalize hX : bs (tat TS k).text = X at *
  go_wp2_with fail
  refine bodyPost_ret (results_cell_row (p := 2) rfl _ _ w.heap.size 93 #[.int .i64 2, .int .i64 0, .string X, .slice none 0 0] (0, 0) _ rfl (put4 HB3.out) Try.underlying93 rfl (by kernel_rfl)) rfl ?_
  rw [HA.out, ← hX]
  exact ⟨_, k', rfl, lx_leaf _ _ _ _ _ _ _, HDR.out, hkk, HC3.out.put4 (by omega) (by omega) _ _ _ _, Only.put4 HO3.out (.inr (Nat.le_refl _)) _ _ _ _⟩
theorem need_no {TS : List Tok} {k : Nat} {s : List UInt8} (h : P.isS s (TS.drop k) = false) : P.need s (TS.drop k) = .error (P.here (TS.drop k)) := by
  unfold P.need
  rw [h]
  rfl
theorem need_yes {TS : List Tok} {k : Nat} {s : List UInt8} (h : P.isS s (TS.drop k) = true) : P.need s (TS.drop k) = .ok (TS.drop (k + 1)) := by
  unfold P.need
  rw [h, if_pos rfl, List.tail_drop]
set_option maxHeartbeats 1600000 in
theorem atom_none (C g cap : Nat) (TS : List Tok) (pv : Value) (k : Nat) (rec : List Tok → P.Res EX) (w : World) (h : Cur w C g cap TS pv k (-1)) (hd : P.isD (TS.drop k) = false) (hn : P.isN (TS.drop k) = false) (hs : P.isS [40] (TS.drop k) = false) :
    Calls Try.prog 115 #[.pointer (some ⟨C, 0, none⟩)] w (XTo C g cap TS pv k (P.atomF rec (TS.drop k)) w) := by
  have hlt := h.lt
  obtain ⟨hCl, hgl⟩ := h.lts
  have HA := Lib.hid (show P.atomF rec (TS.drop k) = .error (P.here (TS.drop k)) by unfold P.atomF; rw [num_no hlt hd, name_nn hlt hn, need_no hs])
  have HC := Lib.hid h
  have HD := Lib.hid hd
  have HN := Lib.hid hn
  have HQ := Lib.hid (need_no hs)
  clear h hd hn hs
  go_enter Try.func115, Try.ntmps115
  go_wp2_with fail
  have HC0 := Lib.hid (HC.out.below (w' := w.alloc (.cells zx 93)) ((Below.refl _ _).alloc (Nat.le_refl _) _))
  have HO0 := Lib.hid ((Only.refl (· = C) w).alloc (.cells zx 93))
  have HB0 := Lib.hid (Blk.new w 93 zx)
  have hsA : w.heap.size < (w.alloc (.cells zx 93)).heap.size := HB0.out.lt
  generalize w.alloc (.cells zx 93) = w0 at *
  with_reducible refine (isNumber_live C g cap TS pv k _ HC0.out).mono ?_
  rintro e w1 ⟨rfl, hb1⟩
  rw [HD.out]
  have HC1 := Lib.hid (HC0.out.below hb1)
  have HO1 := Lib.hid (HO0.out.trans (Only.of_below hb1))
  have HB1 := Lib.hid (HB0.out.live' hb1)
  have hs1 := hb1.size
  clear hb1
  go_wp2_with fail
  with_reducible refine (isName_live C g cap TS pv k _ HC1.out).mono ?_
  rintro e w2 ⟨rfl, hb2⟩
  rw [HN.out]
  have HC2 := Lib.hid (HC1.out.below hb2)
  have HO2 := Lib.hid (HO1.out.trans (Only.of_below hb2))
  have HB2 := Lib.hid (HB1.out.live' hb2)
  have hs2 := hb2.size
  clear hb2
  go_wp2_with fail
  have hnd := need_live C g cap TS pv k ⟨#[40]⟩ _ HC2.out
  rw [show by' (⟨#[40]⟩ : ByteArray) = [40] from rfl, HQ.out] at hnd
  with_reducible refine hnd.mono ?_
  clear hnd
  rintro e w3 ⟨rfl, ho3, hc3⟩
  have HB3 := Lib.hid (HB2.out.only ho3 (by omega))
  have HC3 := Lib.hid (show Cur w3 C g cap TS pv k (P.here (TS.drop k) : Nat) from hc3)
  have HO3 := Lib.hid (HO2.out.trans ho3)
  obtain ⟨c0, c1, c2, c3, f0, f1, f2, f3⟩ := four_free HB3.out
  obtain ⟨b0, b1, b2, b3, _, _, _⟩ := HC3.out.cells
  clear hc3 ho3
  go_wp2_with fail
  refine bodyPost_ret (results_cell_row (p := 2) rfl _ _ w.heap.size 93 zx (0, 0) _ rfl (put4 HB3.out) Try.underlying93 rfl (by kernel_rfl)) rfl ?_
  rw [HA.out]
  exact ⟨_, k, rfl, ⟨_, _, _, _, _, _, rfl⟩, Nat.le_refl _, HC3.out.put4 (by omega) (by omega) _ _ _ _, Only.put4 HO3.out (.inr (Nat.le_refl _)) _ _ _ _⟩
/-- An expression's reader keeps to the plain one from there on. -/
def Reads (C g cap : Nat) (TS : List Tok) (pv : Value) (k : Nat) (F : Nat) (rec : List Tok → P.Res EX) : Prop := ∀ (k' : Nat) (w' : World), k ≤ k' → Cur w' C g cap TS pv k' (-1) → Calls Try.prog F #[.pointer (some ⟨C, 0, none⟩)] w' (XTo C g cap TS pv k' (rec (TS.drop k')) w')
set_option maxHeartbeats 1600000 in
theorem atom_open (C g cap : Nat) (TS : List Tok) (pv : Value) (k : Nat) (rec : List Tok → P.Res EX) (w : World) (h : Cur w C g cap TS pv k (-1)) (hd : P.isD (TS.drop k) = false) (hn : P.isN (TS.drop k) = false) (hs : P.isS [40] (TS.drop k) = true) (hr : Reads C g cap TS pv (k + 1) 92 rec) :
    Calls Try.prog 115 #[.pointer (some ⟨C, 0, none⟩)] w (XTo C g cap TS pv k (P.atomF rec (TS.drop k)) w) := by
  have hlt := h.lt
  obtain ⟨hCl, hgl⟩ := h.lts
  have HA := Lib.hid (show P.atomF rec (TS.drop k) = (match rec (TS.drop (k + 1)) with
        | .error p => .error p
        | .ok (e, r2) =>
          match P.need [41] r2 with
          | .error p => .error p
          | .ok r3 => .ok (e, r3)) by
      conv => lhs; unfold P.atomF
      rw [num_no hlt hd, name_nn hlt hn, need_yes hs]
      rfl)
  have HC := Lib.hid h
  have HD := Lib.hid hd
  have HN := Lib.hid hn
  have HQ := Lib.hid (need_yes hs)
  have HR := Lib.hid hr
  clear h hd hn hs hr
  go_enter Try.func115, Try.ntmps115
  go_wp2_with fail
  have HC0 := Lib.hid (HC.out.below (w' := w.alloc (.cells zx 93)) ((Below.refl _ _).alloc (Nat.le_refl _) _))
  have HO0 := Lib.hid ((Only.refl (· = C) w).alloc (.cells zx 93))
  have HB0 := Lib.hid (Blk.new w 93 zx)
  have hsA : w.heap.size < (w.alloc (.cells zx 93)).heap.size := HB0.out.lt
  generalize w.alloc (.cells zx 93) = w0 at *
  with_reducible refine (isNumber_live C g cap TS pv k _ HC0.out).mono ?_
  rintro e w1 ⟨rfl, hb1⟩
  rw [HD.out]
  have HC1 := Lib.hid (HC0.out.below hb1)
  have HO1 := Lib.hid (HO0.out.trans (Only.of_below hb1))
  have HB1 := Lib.hid (HB0.out.live' hb1)
  have hs1 := hb1.size
  clear hb1
  go_wp2_with fail
  with_reducible refine (isName_live C g cap TS pv k _ HC1.out).mono ?_
  rintro e w2 ⟨rfl, hb2⟩
  rw [HN.out]
  have HC2 := Lib.hid (HC1.out.below hb2)
  have HO2 := Lib.hid (HO1.out.trans (Only.of_below hb2))
  have HB2 := Lib.hid (HB1.out.live' hb2)
  have hs2 := hb2.size
  clear hb2
  go_wp2_with fail
  have hnd := need_live C g cap TS pv k ⟨#[40]⟩ _ HC2.out
  rw [show by' (⟨#[40]⟩ : ByteArray) = [40] from rfl, HQ.out] at hnd
  with_reducible refine hnd.mono ?_
  clear hnd
  rintro e w3 ⟨rfl, ho3, _, hc3⟩
  have HB3 := Lib.hid (HB2.out.only ho3 (by omega))
  have HC3 := Lib.hid (show Cur w3 C g cap TS pv (k + 1) (-1) from hc3)
  have HO3 := Lib.hid (HO2.out.trans ho3)
  have hs3 := ho3.size
  obtain ⟨b0, b1, b2, b3, _, _, _⟩ := HC3.out.cells
  clear hc3 ho3
  go_wp2_with fail
  have hex := HR.out (k + 1) _ (Nat.le_refl _) HC3.out
  cases hrec : rec (TS.drop (k + 1)) with
  | error p =>
    rw [hrec] at hex HA
    have HA' := Lib.hid (show P.atomF rec (TS.drop k) = .error p from HA.out)
    clear hrec HA b0 b1 b2 b3
    with_reducible refine hex.mono ?_
    clear hex
    rintro e w4 ⟨v, k', rfl, ⟨o, m, s, a, n, c, rfl⟩, hkk, hc4, ho4⟩
    have HB4 := Lib.hid (HB3.out.only ho4 (by omega))
    have HC4 := Lib.hid hc4
    have HO4 := Lib.hid (HO3.out.trans ho4)
    have hs4 := ho4.size
    clear hc4 ho4
    go_wp2_with fail
    have HC5 := Lib.hid (HC4.out.below (w' := w4.alloc (.cells #[.int .i64 o, .int .i64 m, .string s, .slice a n c] 93)) ((Below.refl _ _).alloc (Nat.le_refl _) _))
    have HO5 := Lib.hid (HO4.out.alloc (.cells #[.int .i64 o, .int .i64 m, .string s, .slice a n c] 93))
    have HB5 := Lib.hid (HB4.out.alloc (.cells #[.int .i64 o, .int .i64 m, .string s, .slice a n c] 93))
    have HE5 := Lib.hid (Blk.new w4 93 #[.int .i64 o, .int .i64 m, .string s, .slice a n c])
    generalize w4.alloc (.cells #[.int .i64 o, .int .i64 m, .string s, .slice a n c] 93) = w5 at *
    with_reducible refine (need_dead C g cap TS pv k' p ⟨#[41]⟩ _ HC5.out (by omega)).mono ?_
    rintro e w6 ⟨rfl, hb6⟩
    have HC6 := Lib.hid (HC5.out.below hb6)
    have HO6 := Lib.hid (HO5.out.trans (Only.of_below hb6))
    have HB6 := Lib.hid (HB5.out.live' hb6)
    have HE6 := Lib.hid (HE5.out.live' hb6)
    clear hb6
    obtain ⟨c0, c1, c2, c3, f0, f1, f2, f3⟩ := four_free HB6.out
    obtain ⟨d0, d1, d2, d3, _, _, _, _⟩ := four_free HE6.out
    go_wp2_with fail
    refine bodyPost_ret (results_cell_row (p := 2) rfl _ _ w.heap.size 93 #[.int .i64 o, .int .i64 m, .string s, .slice a n c] (0, 0) _ rfl (put4 HB6.out) Try.underlying93 rfl (by kernel_rfl)) rfl ?_
    rw [HA'.out]
    exact ⟨_, k', rfl, ⟨_, _, _, _, _, _, rfl⟩, by omega, HC6.out.put4 (by omega) (by omega) _ _ _ _, Only.put4 HO6.out (.inr (Nat.le_refl _)) _ _ _ _⟩
  | ok x =>
    obtain ⟨x, r2⟩ := x
    rw [hrec] at hex HA
    have HA1 := Lib.hid (show P.atomF rec (TS.drop k) = (match P.need [41] r2 with
          | .error p => .error p
          | .ok r3 => .ok (x, r3)) from HA.out)
    clear hrec HA b0 b1 b2 b3
    with_reducible refine hex.mono ?_
    clear hex
    rintro e w4 ⟨v, k', rfl, hlx, rfl, hkk, hc4, ho4⟩
    obtain ⟨o, m, s, a, n, c, rfl⟩ := hlx.any
    have HB4 := Lib.hid (HB3.out.only ho4 (by omega))
    have HC4 := Lib.hid hc4
    have HO4 := Lib.hid (HO3.out.trans ho4)
    have HX4 := Lib.hid hlx
    have hs4 := ho4.size
    clear hc4 ho4 hlx
    go_wp2_with fail
    have HC5 := Lib.hid (HC4.out.below (w' := w4.alloc (.cells #[.int .i64 o, .int .i64 m, .string s, .slice a n c] 93)) ((Below.refl _ _).alloc (Nat.le_refl _) _))
    have HO5 := Lib.hid (HO4.out.alloc (.cells #[.int .i64 o, .int .i64 m, .string s, .slice a n c] 93))
    have HB5 := Lib.hid (HB4.out.alloc (.cells #[.int .i64 o, .int .i64 m, .string s, .slice a n c] 93))
    have HE5 := Lib.hid (Blk.new w4 93 #[.int .i64 o, .int .i64 m, .string s, .slice a n c])
    have HX5 := Lib.hid (HX4.out.keep (w' := w4.alloc (.cells #[.int .i64 o, .int .i64 m, .string s, .slice a n c] 93)) (Keeps.below ((Below.refl _ _).alloc (Nat.le_refl _) _) (Nat.le_refl _)))
    have hs5 : w4.heap.size ≤ (w4.alloc (.cells #[.int .i64 o, .int .i64 m, .string s, .slice a n c] 93)).heap.size := by simp
    generalize w4.alloc (.cells #[.int .i64 o, .int .i64 m, .string s, .slice a n c] 93) = w5 at *
    have hnd := need_live C g cap TS pv k' ⟨#[41]⟩ _ HC5.out
    rw [show by' (⟨#[41]⟩ : ByteArray) = [41] from rfl] at hnd
    cases hq : P.need [41] (TS.drop k') with
    | error p =>
      rw [hq] at hnd HA1
      have HA' := Lib.hid (show P.atomF rec (TS.drop k) = .error p from HA1.out)
      clear hq HA1
      with_reducible refine hnd.mono ?_
      clear hnd
      rintro e w6 ⟨rfl, ho6, hc6⟩
      have HC6 := Lib.hid (show Cur w6 C g cap TS pv k' (p : Nat) from hc6)
      have HO6 := Lib.hid (HO5.out.trans ho6)
      have HB6 := Lib.hid (HB5.out.only ho6 (by omega))
      have HE6 := Lib.hid (HE5.out.only ho6 (by omega))
      clear hc6 ho6
      obtain ⟨c0, c1, c2, c3, f0, f1, f2, f3⟩ := four_free HB6.out
      obtain ⟨d0, d1, d2, d3, _, _, _, _⟩ := four_free HE6.out
      go_wp2_with fail
      refine bodyPost_ret (results_cell_row (p := 2) rfl _ _ w.heap.size 93 #[.int .i64 o, .int .i64 m, .string s, .slice a n c] (0, 0) _ rfl (put4 HB6.out) Try.underlying93 rfl (by kernel_rfl)) rfl ?_
      rw [HA'.out]
      exact ⟨_, k', rfl, ⟨_, _, _, _, _, _, rfl⟩, by omega, HC6.out.put4 (by omega) (by omega) _ _ _ _, Only.put4 HO6.out (.inr (Nat.le_refl _)) _ _ _ _⟩
    | ok r3 =>
      rw [hq] at hnd HA1
      have HA' := Lib.hid (show P.atomF rec (TS.drop k) = .ok (x, r3) from HA1.out)
      clear hq HA1
      with_reducible refine hnd.mono ?_
      clear hnd
      rintro e w6 ⟨rfl, ho6, hdr, hc6⟩
      have HC6 := Lib.hid (show Cur w6 C g cap TS pv (k' + 1) (-1) from hc6)
      have HO6 := Lib.hid (HO5.out.trans ho6)
      have HB6 := Lib.hid (HB5.out.only ho6 (by omega))
      have HE6 := Lib.hid (HE5.out.only ho6 (by omega))
      have HX6 := Lib.hid (HX5.out.keep (Keeps.only ho6 (by intro q hq e; unfold From at hq; omega)))
      have HDR := Lib.hid hdr
      clear hc6 ho6 hdr
      obtain ⟨c0, c1, c2, c3, f0, f1, f2, f3⟩ := four_free HB6.out
      obtain ⟨d0, d1, d2, d3, _, _, _, _⟩ := four_free HE6.out
      go_wp2_with fail
      refine bodyPost_ret (results_cell_row (p := 2) rfl _ _ w.heap.size 93 #[.int .i64 o, .int .i64 m, .string s, .slice a n c] (0, 0) _ rfl (put4 HB6.out) Try.underlying93 rfl (by kernel_rfl)) rfl ?_
      rw [HA'.out]
      refine ⟨_, k' + 1, rfl, ?_, HDR.out, by omega, HC6.out.put4 (by omega) (by omega) _ _ _ _, Only.put4 HO6.out (.inr (Nat.le_refl _)) _ _ _ _⟩
      refine LX.mono (Q := From w3.heap.size) (by intro q hq _; unfold From at hq ⊢; omega) _ (HX6.out.keep (Keeps.only (S := fun b => b = w.heap.size) (Only.put4 (Only.refl (fun b => b = w.heap.size) w6) (.inl rfl) _ _ _ _) (by intro q hq e; unfold From at hq; omega)))
theorem atom_live (C g cap : Nat) (TS : List Tok) (pv : Value) (k : Nat) (rec : List Tok → P.Res EX) (w : World) (h : Cur w C g cap TS pv k (-1)) (hr : Reads C g cap TS pv (k + 1) 92 rec) :
    Calls Try.prog 115 #[.pointer (some ⟨C, 0, none⟩)] w (XTo C g cap TS pv k (P.atomF rec (TS.drop k)) w) := by
  cases hd : P.isD (TS.drop k)
  · cases hn : P.isN (TS.drop k)
    · cases hs : P.isS [40] (TS.drop k)
      · exact atom_none C g cap TS pv k rec w h hd hn hs
      · exact atom_open C g cap TS pv k rec w h hd hn hs hr
    · exact atom_name C g cap TS pv k rec w h hd hn
  · exact atom_num C g cap TS pv k rec w h hd
theorem Reads.later {C g cap : Nat} {TS : List Tok} {pv : Value} {k k' F : Nat} {rec : List Tok → P.Res EX} (h : Reads C g cap TS pv k F rec) (hk : k ≤ k') : Reads C g cap TS pv k' F rec := fun j w hj hc => h j w (by omega) hc
set_option maxHeartbeats 1600000 in
theorem atom_dead (C g cap : Nat) (TS : List Tok) (pv : Value) (k : Nat) (bad : Int) (w : World) (h : Cur w C g cap TS pv k bad) (hb : 0 ≤ bad) :
    Calls Try.prog 115 #[.pointer (some ⟨C, 0, none⟩)] w (DeadTo AnyX C g cap TS pv k bad w) := by
  have hlt := h.lt
  obtain ⟨hCl, hgl⟩ := h.lts
  have HC := Lib.hid h
  have d : decide (bad < 0) = false := by simp; omega
  have d' : decide ((0 : Int) ≤ bad) = true := by simpa using hb
  clear h
  go_enter Try.func115, Try.ntmps115
  go_wp2_with fail
  have HC0 := Lib.hid (HC.out.below (w' := w.alloc (.cells zx 93)) ((Below.refl _ _).alloc (Nat.le_refl _) _))
  have HO0 := Lib.hid ((Only.refl (· = C) w).alloc (.cells zx 93))
  have HB0 := Lib.hid (Blk.new w 93 zx)
  have hsA : w.heap.size < (w.alloc (.cells zx 93)).heap.size := HB0.out.lt
  generalize w.alloc (.cells zx 93) = w0 at *
  with_reducible refine (isNumber_dead C g cap TS pv k bad _ HC0.out hb).mono ?_
  rintro e w1 ⟨rfl, hb1⟩
  have HC1 := Lib.hid (HC0.out.below hb1)
  have HO1 := Lib.hid (HO0.out.trans (Only.of_below hb1))
  have HB1 := Lib.hid (HB0.out.live' hb1)
  clear hb1
  go_wp2_with fail
  with_reducible refine (isName_dead C g cap TS pv k bad _ HC1.out hb).mono ?_
  rintro e w2 ⟨rfl, hb2⟩
  have HC2 := Lib.hid (HC1.out.below hb2)
  have HO2 := Lib.hid (HO1.out.trans (Only.of_below hb2))
  have HB2 := Lib.hid (HB1.out.live' hb2)
  clear hb2
  go_wp2_with fail
  with_reducible refine (need_dead C g cap TS pv k bad ⟨#[40]⟩ _ HC2.out hb).mono ?_
  rintro e w3 ⟨rfl, hb3⟩
  have HC3 := Lib.hid (HC2.out.below hb3)
  have HO3 := Lib.hid (HO2.out.trans (Only.of_below hb3))
  have HB3 := Lib.hid (HB2.out.live' hb3)
  clear hb3
  obtain ⟨c0, c1, c2, c3, f0, f1, f2, f3⟩ := four_free HB3.out
  obtain ⟨b0, b1, b2, b3, _, _, _⟩ := HC3.out.cells
  go_wp2_with fail
  refine bodyPost_ret (results_cell_row (p := 2) rfl _ _ w.heap.size 93 zx (0, 0) _ rfl (put4 HB3.out) Try.underlying93 rfl (by kernel_rfl)) rfl ?_
  exact ⟨_, rfl, ⟨_, _, _, _, _, _, rfl⟩, HC3.out.put4 (by omega) (by omega) _ _ _ _, Only.put4 HO3.out (.inr (Nat.le_refl _)) _ _ _ _⟩
end Go.Proofs.Ytikihomablmcnaa.Lx
