/-
  What an audit asks of expressions, as contracts: nodes, depth, one after the other.
-/
import Derived.Test.YtlgnagmmljdkiabCKA
import Derived.Test.YtlgnagmmljdkiabPSame
import Derived.Deep.RegionHeld3
import Derived.Test.YtlgnagmmljdkiabQSame
import Derived.Deep.QuietTactic
import Derived.BigQuiet
namespace Go.Proofs.Ytlgnagmmljdkiab.Lx
open Go.RowKit
open P (wth EX CO ST PG setsB regsL nodeE nodeC eachX eachXs eachC eachCs withinX withinC dpX dpXs dpC dpCs andE regE locE)
set_option maxRecDepth 100000
set_option linter.unusedVariables false
set_option linter.unusedSimpArgs false

theorem bel_step {W w7 : World} (h : Below W.drew.heap.size W.drew w7) : Below W.heap.size W w7 := ((Below.refl W.heap.size W).drew).trans h
theorem nodeE_odd {vals : Int} {regs : List (List UInt8)} {op n : Int} {s : List UInt8} {ks : List EX} (h1 : op ≠ 1) (h2 : op ≠ 2) (h3 : ¬ (3 ≤ op ∧ op ≤ 6)) : nodeE vals regs (.mk op n s ks) = 1 := by
  unfold P.nodeE
  simp only [if_neg h1, if_neg h2, if_neg h3]
theorem lens_is {α : Type} {ks : List α} {m : Nat} (h : ks.length = m) : ((ks.length : Int) == (m : Int)) = true ∧ (ks.length == m) = true := by
  constructor
  · simp; omega
  · simpa using h
theorem lens_no {α : Type} {ks : List α} {m : Nat} (h : ks.length ≠ m) : ((ks.length : Int) == (m : Int)) = false ∧ (ks.length == m) = false := by
  constructor
  · simp; omega
  · simpa using h
theorem lens_pos {α : Type} {ks : List α} (h : 0 < ks.length) : decide ((0 : Int) < (ks.length : Int)) = true ∧ decide (0 < ks.length) = true := ⟨decide_eq_true (by omega), decide_eq_true h⟩
theorem lens_zero {α : Type} {ks : List α} (h : ¬ 0 < ks.length) : decide ((0 : Int) < (ks.length : Int)) = false ∧ decide (0 < ks.length) = false := ⟨decide_eq_false (by omega), decide_eq_false h⟩

set_option maxHeartbeats 3200000 in
theorem cknum_any {B a : Nat} {x : PV} {part : Int} {lv : Value} {lm : Option Nat} {st : Int} {locs regs : List (List UInt8)} {w : World} (h : Ad B a x part lv lm st locs regs w) (n : Int) (s : List UInt8) (ks : List EX) (v : Value) (hv : LX (fun _ => True) w v (.mk 1 n s ks)) :
    Calls Try.prog 103 #[.pointer (some ⟨a, 0, none⟩), v] w (ErTo (if ks.length = 0 ∧ s = [] ∧ 0 ≤ n ∧ n < x.vals then 0 else 1) w) := by
  unfold LX at hv
  obtain ⟨ka, kc, rfl, _, _⟩ := hv
  have HB := Lib.hid (one_belowN w (.cells #[.int .i64 1, .int .i64 n, .string (bs s), .slice ka ks.length kc] 47))
  by_cases h1 : ks.length = 0
  · obtain ⟨t1, t2⟩ := lens_is h1
    have t1' : ((ks.length : Int) == 0) = true := t1
    by_cases h2 : s = []
    · obtain ⟨e1, e2⟩ := empty_is h2
      have HV := Lib.hid (value_any (h.below HB.out) n)
      have HH := Lib.hid (show (if ks.length = 0 ∧ s = [] ∧ 0 ≤ n ∧ n < x.vals then 0 else 1) = (if decide (0 ≤ n ∧ n < x.vals) = true then 0 else 1) by simp [h1, h2])
      rw [HH.out]
      clear h h1 h2 HH
      generalize bs s = S at *
      generalize decide (0 ≤ n ∧ n < x.vals) = bb at *
      cases bb
      all_goals
        go_enter Try.func103, Try.ntmps103
        go_wp2_with fail
        with_reducible refine HV.out.mono ?_
        rintro e w1 ⟨rfl, rfl⟩
        go_wp2_with fail
        with_reducible refine (unless_any _ 1 _).mono ?_
        rintro e w2 ⟨rfl, rfl⟩
        go_wp2_with fail
        go_ret
        exact ⟨rfl, HB.out⟩
    · obtain ⟨e1, e2⟩ := empty_no h2
      rw [if_neg (fun hh => h2 hh.2.1)]
      clear h h1 h2
      generalize bs s = S at *
      go_enter Try.func103, Try.ntmps103
      go_wp2_with fail
      with_reducible refine (unless_any _ 1 _).mono ?_
      rintro e w2 ⟨rfl, rfl⟩
      go_wp2_with fail
      go_ret
      exact ⟨rfl, HB.out⟩
  · obtain ⟨t1, t2⟩ := lens_no h1
    have t1' : ((ks.length : Int) == 0) = false := t1
    rw [if_neg (fun hh => h1 hh.1)]
    clear h h1
    generalize bs s = S at *
    go_enter Try.func103, Try.ntmps103
    go_wp2_with fail
    with_reducible refine (unless_any _ 1 _).mono ?_
    rintro e w2 ⟨rfl, rfl⟩
    go_wp2_with fail
    go_ret
    exact ⟨rfl, HB.out⟩
set_option maxHeartbeats 3200000 in
theorem cksides_any (a : Nat) (op : Int) (w : World) (n : Int) (s : List UInt8) (ks : List EX) (v : Value) (hv : LX (fun _ => True) w v (.mk op n s ks)) :
    Calls Try.prog 105 #[.pointer (some ⟨a, 0, none⟩), v] w (ErTo (if ks.length = 2 ∧ s = [] ∧ n = 0 then 0 else 1) w) := by
  unfold LX at hv
  obtain ⟨ka, kc, rfl, _, _⟩ := hv
  have HB := Lib.hid (one_belowN w (.cells #[.int .i64 op, .int .i64 n, .string (bs s), .slice ka ks.length kc] 47))
  by_cases h1 : ks.length = 2
  · obtain ⟨t1, t2⟩ := lens_is h1
    have t1' : ((ks.length : Int) == 2) = true := t1
    by_cases h2 : s = []
    · obtain ⟨e1, e2⟩ := empty_is h2
      by_cases h3 : n = 0
      · rw [if_pos ⟨h1, h2, h3⟩]
        have e3 : (n == 0) = true := by simpa using h3
        clear h1 h2 h3
        generalize bs s = S at *
        go_enter Try.func105, Try.ntmps105
        go_wp2_with fail
        with_reducible refine (unless_any _ 1 _).mono ?_
        rintro e w2 ⟨rfl, rfl⟩
        go_wp2_with fail
        go_ret
        exact ⟨rfl, HB.out⟩
      · rw [if_neg (fun hh => h3 hh.2.2)]
        have e3 : (n == 0) = false := by simpa using h3
        clear h1 h2 h3
        generalize bs s = S at *
        go_enter Try.func105, Try.ntmps105
        go_wp2_with fail
        with_reducible refine (unless_any _ 1 _).mono ?_
        rintro e w2 ⟨rfl, rfl⟩
        go_wp2_with fail
        go_ret
        exact ⟨rfl, HB.out⟩
    · obtain ⟨e1, e2⟩ := empty_no h2
      rw [if_neg (fun hh => h2 hh.2.1)]
      clear h1 h2
      generalize bs s = S at *
      go_enter Try.func105, Try.ntmps105
      go_wp2_with fail
      with_reducible refine (unless_any _ 1 _).mono ?_
      rintro e w2 ⟨rfl, rfl⟩
      go_wp2_with fail
      go_ret
      exact ⟨rfl, HB.out⟩
  · obtain ⟨t1, t2⟩ := lens_no h1
    have t1' : ((ks.length : Int) == 2) = false := t1
    rw [if_neg (fun hh => h1 hh.1)]
    clear h1
    generalize bs s = S at *
    go_enter Try.func105, Try.ntmps105
    go_wp2_with fail
    with_reducible refine (unless_any _ 1 _).mono ?_
    rintro e w2 ⟨rfl, rfl⟩
    go_wp2_with fail
    go_ret
    exact ⟨rfl, HB.out⟩
set_option maxHeartbeats 6400000 in
theorem ckreg_any {B a : Nat} {x : PV} {part : Int} {lv : Value} {lm : Option Nat} {st : Int} {locs regs : List (List UInt8)} {w : World} (h : Ad B a x part lv lm st locs regs w) (n : Int) (s : List UInt8) (ks : List EX) (hs : s.length ≤ maxLen) (v : Value) (hv : LX (fun _ => True) w v (.mk 2 n s ks)) :
    Calls Try.prog 104 #[.pointer (some ⟨a, 0, none⟩), v] w (ErTo (if 0 < ks.length ∨ n ≠ 0 then 1 else if s ∈ regs then 0 else 4) w) := by
  unfold LX at hv
  obtain ⟨ka, kc, rfl, _, _⟩ := hv
  have HB := Lib.hid (one_belowN w (.cells #[.int .i64 2, .int .i64 n, .string (bs s), .slice ka ks.length kc] 47))
  by_cases h1 : 0 < ks.length
  · obtain ⟨t1, t2⟩ := lens_pos h1
    rw [if_pos (.inl h1)]
    clear h h1 hs
    generalize bs s = S at *
    go_enter Try.func104, Try.ntmps104
    go_wp2_with fail
    go_ret
    exact ⟨rfl, HB.out⟩
  · obtain ⟨t1, t2⟩ := lens_zero h1
    by_cases h2 : n = 0
    · rw [if_neg (fun hh => hh.elim h1 (fun k => k h2))]
      have e1 : (n == 0) = true := by simpa using h2
      have e2 : (n != 0) = false := by simpa using h2
      have HR := Lib.hid (fun w' (hb : Below w.heap.size w w') => (h.below hb).hasR s hs)
      have hbx := Blk.new w 47 #[.int .i64 2, .int .i64 n, .string (bs s), .slice ka ks.length kc]
      have HBX := Lib.hid hbx
      by_cases hin : s ∈ regs
      all_goals
        first
          | (rw [if_pos hin]; rw [decide_eq_true hin] at HR)
          | (rw [if_neg hin]; rw [decide_eq_false hin] at HR)
        clear h h1 h2 hs hin hbx
        generalize bs s = S at *
        go_enter Try.func104, Try.ntmps104
        go_wp2_with fail
        generalize hW : w.alloc (.cells #[.int .i64 2, .int .i64 n, .string S, .slice ka ks.length kc] 47) = W at *
        clear hW
        have hbD : Below w.heap.size w W.drew := HB.out.drew
        have HK0 := Lib.hid (show W.cell? ⟨w.heap.size, 2, none⟩ = some (.string S) from HBX.out.cell 2)
        have HKD := Lib.hid (show W.drew.cell? ⟨w.heap.size, 2, none⟩ = some (.string S) from HBX.out.cell 2)
        have HX := Lib.hid (show ∀ w', Below W.heap.size W w' → w'.cell? ⟨w.heap.size, 2, none⟩ = some (.string S) from fun w' hb => (HBX.out.live' hb).cell 2)
        have hs1 := HB.out.size
        go_region_held3 (fun w' => w'.cell? ⟨w.heap.size, 2, none⟩ = some (.string S))
          (first
            | with_reducible exact HK0.out
            | with_reducible exact HKD.out
            | with_reducible assumption
            | go_keep)
          (first
            | (go_at_call 57; (with_reducible refine (HR.out _ (by first | assumption | exact HB.out)).mono ?_); rintro e w7 ⟨rfl, hb7w⟩; have hb7 := bel_step hb7w; have hS7 := HX.out w7 hb7)
            | (go_at_call 40; (with_reducible refine (unless_any _ 4 _).mono ?_); rintro e w8 ⟨rfl, rfl⟩))
        all_goals
          go_wp2_with fail
          go_ret
          exact ⟨rfl, HB.out.trans (hb7.mono HB.out.size)⟩
    · have e1 : (n == 0) = false := by simpa using h2
      have e2 : (n != 0) = true := by simpa using h2
      rw [if_pos (.inr h2)]
      clear h h1 h2 hs
      generalize bs s = S at *
      go_enter Try.func104, Try.ntmps104
      go_wp2_with fail
      go_ret
      exact ⟨rfl, HB.out⟩

/-- What asks expressions of that Op. -/
def fk (a : Nat) (op : Int) : Value := if op = 1 then .func (.func 103) #[.pointer (some ⟨a, 0, none⟩)] #[] else if op = 2 then .func (.func 104) #[.pointer (some ⟨a, 0, none⟩)] #[] else if op = 3 then .func (.func 105) #[.pointer (some ⟨a, 0, none⟩)] #[] else if op = 4 then .func (.func 105) #[.pointer (some ⟨a, 0, none⟩)] #[] else if op = 5 then .func (.func 105) #[.pointer (some ⟨a, 0, none⟩)] #[] else if op = 6 then .func (.func 105) #[.pointer (some ⟨a, 0, none⟩)] #[] else .nilFunc
set_option maxHeartbeats 1600000 in
theorem ckexprOf_any (a : Nat) (op : Int) (w : World) : Calls Try.prog 98 #[.pointer (some ⟨a, 0, none⟩), .int .i64 op] w (fun e w' => e = .returned (fk a op) ∧ w = w') := by
  by_cases h1 : op = 1
  · subst h1
    show Calls Try.prog 98 #[.pointer (some ⟨a, 0, none⟩), .int .i64 1] w (fun e w' => e = .returned (.func (.func 103) #[.pointer (some ⟨a, 0, none⟩)] #[]) ∧ w = w')
    go_enter Try.func98, Try.ntmps98
    go_wp2_with fail
    go_ret
    exact ⟨rfl, rfl⟩
  by_cases h2 : op = 2
  · subst h2
    show Calls Try.prog 98 #[.pointer (some ⟨a, 0, none⟩), .int .i64 2] w (fun e w' => e = .returned (.func (.func 104) #[.pointer (some ⟨a, 0, none⟩)] #[]) ∧ w = w')
    go_enter Try.func98, Try.ntmps98
    go_wp2_with fail
    go_ret
    exact ⟨rfl, rfl⟩
  by_cases h3 : op = 3
  · subst h3
    show Calls Try.prog 98 #[.pointer (some ⟨a, 0, none⟩), .int .i64 3] w (fun e w' => e = .returned (.func (.func 105) #[.pointer (some ⟨a, 0, none⟩)] #[]) ∧ w = w')
    go_enter Try.func98, Try.ntmps98
    go_wp2_with fail
    go_ret
    exact ⟨rfl, rfl⟩
  by_cases h4 : op = 4
  · subst h4
    show Calls Try.prog 98 #[.pointer (some ⟨a, 0, none⟩), .int .i64 4] w (fun e w' => e = .returned (.func (.func 105) #[.pointer (some ⟨a, 0, none⟩)] #[]) ∧ w = w')
    go_enter Try.func98, Try.ntmps98
    go_wp2_with fail
    go_ret
    exact ⟨rfl, rfl⟩
  by_cases h5 : op = 5
  · subst h5
    show Calls Try.prog 98 #[.pointer (some ⟨a, 0, none⟩), .int .i64 5] w (fun e w' => e = .returned (.func (.func 105) #[.pointer (some ⟨a, 0, none⟩)] #[]) ∧ w = w')
    go_enter Try.func98, Try.ntmps98
    go_wp2_with fail
    go_ret
    exact ⟨rfl, rfl⟩
  by_cases h6 : op = 6
  · subst h6
    show Calls Try.prog 98 #[.pointer (some ⟨a, 0, none⟩), .int .i64 6] w (fun e w' => e = .returned (.func (.func 105) #[.pointer (some ⟨a, 0, none⟩)] #[]) ∧ w = w')
    go_enter Try.func98, Try.ntmps98
    go_wp2_with fail
    go_ret
    exact ⟨rfl, rfl⟩
  have e1 : (op == 1) = false := by simp; omega
  have e2 : (op == 2) = false := by simp; omega
  have e3 : (op == 3) = false := by simp; omega
  have e4 : (op == 4) = false := by simp; omega
  have e5 : (op == 5) = false := by simp; omega
  have e6 : (op == 6) = false := by simp; omega
  have hf : fk a op = .nilFunc := by simp [fk, h1, h2, h3, h4, h5, h6]
  rw [hf]
  clear hf
  go_enter Try.func98, Try.ntmps98
  go_wp2_with fail
  go_ret
  exact ⟨rfl, rfl⟩
set_option maxHeartbeats 12800000 in
theorem ckexpr_any {B a : Nat} {x : PV} {part : Int} {lv : Value} {lm : Option Nat} {st : Int} {locs regs : List (List UInt8)} {w : World} (h : Ad B a x part lv lm st locs regs w) (e : EX) (v : Value) (hv : LX (fun _ => True) w v e) (hw : wfX e) :
    Calls Try.prog 80 #[.pointer (some ⟨a, 0, none⟩), v] w (ErTo (nodeE x.vals regs e) w) := by
  obtain ⟨op, n, s, ks⟩ := e
  have hv0 := hv
  unfold LX at hv0
  obtain ⟨ka, kc, rfl, _, _⟩ := hv0
  unfold wfX at hw
  obtain ⟨_, _, hs, _⟩ := hw
  have HB := Lib.hid (one_belowN w (.cells #[.int .i64 op, .int .i64 n, .string (bs s), .slice ka ks.length kc] 47))
  have HAd := Lib.hid (h.below HB.out)
  have HV := Lib.hid (LX.keep (Keeps.below HB.out (Nat.le_refl _)) _ hv)
  have HS := Lib.hid hs
  clear h hv hs
  by_cases h1 : op = 1
  · subst h1
    show Calls Try.prog 80 #[.pointer (some ⟨a, 0, none⟩), .agg #[.int .i64 1, .int .i64 n, .string (bs s), .slice ka ks.length kc]] w (ErTo (if ks.length = 0 ∧ s = [] ∧ 0 ≤ n ∧ n < x.vals then 0 else 1) w)
    have HA := Lib.hid (cknum_any HAd.out n s ks _ HV.out)
    have HBX := Lib.hid (Blk.new w 47 #[.int .i64 1, .int .i64 n, .string (bs s), .slice ka ks.length kc])
    clear HV
    generalize (if ks.length = 0 ∧ s = [] ∧ 0 ≤ n ∧ n < x.vals then 0 else 1) = R at *
    generalize bs s = S at *
    go_enter Try.func80, Try.ntmps80
    go_wp2_with fail
    generalize hW : w.alloc (.cells #[.int .i64 1, .int .i64 n, .string S, .slice ka ks.length kc] 47) = W at *
    clear hW
    obtain ⟨q0, q1, q2, q3, _, _, _, _⟩ := four_free HBX.out
    with_reducible refine (ckexprOf_any a 1 W).mono ?_
    rintro e w2 ⟨rfl, rfl⟩
    rw [show fk a 1 = .func (.func 103) #[.pointer (some ⟨a, 0, none⟩)] #[] from rfl]
    have hrun : Sem.run Try.prog (binOp BinOp.eql 128 (.func (.func 103) #[.pointer (some ⟨a, 0, none⟩)] #[]) .nilFunc) W = .ok (.bool false) W := by kernel_rfl
    go_wp2_with fail
    with_reducible refine HA.out.mono ?_
    rintro e w3 ⟨rfl, hb3⟩
    go_wp2_with fail
    go_ret
    exact ⟨rfl, HB.out.trans (hb3.mono HB.out.size)⟩
  by_cases h2 : op = 2
  · subst h2
    show Calls Try.prog 80 #[.pointer (some ⟨a, 0, none⟩), .agg #[.int .i64 2, .int .i64 n, .string (bs s), .slice ka ks.length kc]] w (ErTo (if 0 < ks.length ∨ n ≠ 0 then 1 else if s ∈ regs then 0 else 4) w)
    have HA := Lib.hid (ckreg_any HAd.out n s ks HS.out _ HV.out)
    have HBX := Lib.hid (Blk.new w 47 #[.int .i64 2, .int .i64 n, .string (bs s), .slice ka ks.length kc])
    clear HV
    generalize (if 0 < ks.length ∨ n ≠ 0 then 1 else if s ∈ regs then 0 else 4) = R at *
    generalize bs s = S at *
    go_enter Try.func80, Try.ntmps80
    go_wp2_with fail
    generalize hW : w.alloc (.cells #[.int .i64 2, .int .i64 n, .string S, .slice ka ks.length kc] 47) = W at *
    clear hW
    obtain ⟨q0, q1, q2, q3, _, _, _, _⟩ := four_free HBX.out
    with_reducible refine (ckexprOf_any a 2 W).mono ?_
    rintro e w2 ⟨rfl, rfl⟩
    rw [show fk a 2 = .func (.func 104) #[.pointer (some ⟨a, 0, none⟩)] #[] from rfl]
    have hrun : Sem.run Try.prog (binOp BinOp.eql 128 (.func (.func 104) #[.pointer (some ⟨a, 0, none⟩)] #[]) .nilFunc) W = .ok (.bool false) W := by kernel_rfl
    go_wp2_with fail
    with_reducible refine HA.out.mono ?_
    rintro e w3 ⟨rfl, hb3⟩
    go_wp2_with fail
    go_ret
    exact ⟨rfl, HB.out.trans (hb3.mono HB.out.size)⟩
  by_cases h3 : op = 3
  · subst h3
    show Calls Try.prog 80 #[.pointer (some ⟨a, 0, none⟩), .agg #[.int .i64 3, .int .i64 n, .string (bs s), .slice ka ks.length kc]] w (ErTo (if ks.length = 2 ∧ s = [] ∧ n = 0 then 0 else 1) w)
    have HA := Lib.hid (cksides_any a 3 _ n s ks _ HV.out)
    have HBX := Lib.hid (Blk.new w 47 #[.int .i64 3, .int .i64 n, .string (bs s), .slice ka ks.length kc])
    clear HV
    generalize (if ks.length = 2 ∧ s = [] ∧ n = 0 then 0 else 1) = R at *
    generalize bs s = S at *
    go_enter Try.func80, Try.ntmps80
    go_wp2_with fail
    generalize hW : w.alloc (.cells #[.int .i64 3, .int .i64 n, .string S, .slice ka ks.length kc] 47) = W at *
    clear hW
    obtain ⟨q0, q1, q2, q3, _, _, _, _⟩ := four_free HBX.out
    with_reducible refine (ckexprOf_any a 3 W).mono ?_
    rintro e w2 ⟨rfl, rfl⟩
    rw [show fk a 3 = .func (.func 105) #[.pointer (some ⟨a, 0, none⟩)] #[] from rfl]
    have hrun : Sem.run Try.prog (binOp BinOp.eql 128 (.func (.func 105) #[.pointer (some ⟨a, 0, none⟩)] #[]) .nilFunc) W = .ok (.bool false) W := by kernel_rfl
    go_wp2_with fail
    with_reducible refine HA.out.mono ?_
    rintro e w3 ⟨rfl, hb3⟩
    go_wp2_with fail
    go_ret
    exact ⟨rfl, HB.out.trans (hb3.mono HB.out.size)⟩
  by_cases h4 : op = 4
  · subst h4
    show Calls Try.prog 80 #[.pointer (some ⟨a, 0, none⟩), .agg #[.int .i64 4, .int .i64 n, .string (bs s), .slice ka ks.length kc]] w (ErTo (if ks.length = 2 ∧ s = [] ∧ n = 0 then 0 else 1) w)
    have HA := Lib.hid (cksides_any a 4 _ n s ks _ HV.out)
    have HBX := Lib.hid (Blk.new w 47 #[.int .i64 4, .int .i64 n, .string (bs s), .slice ka ks.length kc])
    clear HV
    generalize (if ks.length = 2 ∧ s = [] ∧ n = 0 then 0 else 1) = R at *
    generalize bs s = S at *
    go_enter Try.func80, Try.ntmps80
    go_wp2_with fail
    generalize hW : w.alloc (.cells #[.int .i64 4, .int .i64 n, .string S, .slice ka ks.length kc] 47) = W at *
    clear hW
    obtain ⟨q0, q1, q2, q3, _, _, _, _⟩ := four_free HBX.out
    with_reducible refine (ckexprOf_any a 4 W).mono ?_
    rintro e w2 ⟨rfl, rfl⟩
    rw [show fk a 4 = .func (.func 105) #[.pointer (some ⟨a, 0, none⟩)] #[] from rfl]
    have hrun : Sem.run Try.prog (binOp BinOp.eql 128 (.func (.func 105) #[.pointer (some ⟨a, 0, none⟩)] #[]) .nilFunc) W = .ok (.bool false) W := by kernel_rfl
    go_wp2_with fail
    with_reducible refine HA.out.mono ?_
    rintro e w3 ⟨rfl, hb3⟩
    go_wp2_with fail
    go_ret
    exact ⟨rfl, HB.out.trans (hb3.mono HB.out.size)⟩
  by_cases h5 : op = 5
  · subst h5
    show Calls Try.prog 80 #[.pointer (some ⟨a, 0, none⟩), .agg #[.int .i64 5, .int .i64 n, .string (bs s), .slice ka ks.length kc]] w (ErTo (if ks.length = 2 ∧ s = [] ∧ n = 0 then 0 else 1) w)
    have HA := Lib.hid (cksides_any a 5 _ n s ks _ HV.out)
    have HBX := Lib.hid (Blk.new w 47 #[.int .i64 5, .int .i64 n, .string (bs s), .slice ka ks.length kc])
    clear HV
    generalize (if ks.length = 2 ∧ s = [] ∧ n = 0 then 0 else 1) = R at *
    generalize bs s = S at *
    go_enter Try.func80, Try.ntmps80
    go_wp2_with fail
    generalize hW : w.alloc (.cells #[.int .i64 5, .int .i64 n, .string S, .slice ka ks.length kc] 47) = W at *
    clear hW
    obtain ⟨q0, q1, q2, q3, _, _, _, _⟩ := four_free HBX.out
    with_reducible refine (ckexprOf_any a 5 W).mono ?_
    rintro e w2 ⟨rfl, rfl⟩
    rw [show fk a 5 = .func (.func 105) #[.pointer (some ⟨a, 0, none⟩)] #[] from rfl]
    have hrun : Sem.run Try.prog (binOp BinOp.eql 128 (.func (.func 105) #[.pointer (some ⟨a, 0, none⟩)] #[]) .nilFunc) W = .ok (.bool false) W := by kernel_rfl
    go_wp2_with fail
    with_reducible refine HA.out.mono ?_
    rintro e w3 ⟨rfl, hb3⟩
    go_wp2_with fail
    go_ret
    exact ⟨rfl, HB.out.trans (hb3.mono HB.out.size)⟩
  by_cases h6 : op = 6
  · subst h6
    show Calls Try.prog 80 #[.pointer (some ⟨a, 0, none⟩), .agg #[.int .i64 6, .int .i64 n, .string (bs s), .slice ka ks.length kc]] w (ErTo (if ks.length = 2 ∧ s = [] ∧ n = 0 then 0 else 1) w)
    have HA := Lib.hid (cksides_any a 6 _ n s ks _ HV.out)
    have HBX := Lib.hid (Blk.new w 47 #[.int .i64 6, .int .i64 n, .string (bs s), .slice ka ks.length kc])
    clear HV
    generalize (if ks.length = 2 ∧ s = [] ∧ n = 0 then 0 else 1) = R at *
    generalize bs s = S at *
    go_enter Try.func80, Try.ntmps80
    go_wp2_with fail
    generalize hW : w.alloc (.cells #[.int .i64 6, .int .i64 n, .string S, .slice ka ks.length kc] 47) = W at *
    clear hW
    obtain ⟨q0, q1, q2, q3, _, _, _, _⟩ := four_free HBX.out
    with_reducible refine (ckexprOf_any a 6 W).mono ?_
    rintro e w2 ⟨rfl, rfl⟩
    rw [show fk a 6 = .func (.func 105) #[.pointer (some ⟨a, 0, none⟩)] #[] from rfl]
    have hrun : Sem.run Try.prog (binOp BinOp.eql 128 (.func (.func 105) #[.pointer (some ⟨a, 0, none⟩)] #[]) .nilFunc) W = .ok (.bool false) W := by kernel_rfl
    go_wp2_with fail
    with_reducible refine HA.out.mono ?_
    rintro e w3 ⟨rfl, hb3⟩
    go_wp2_with fail
    go_ret
    exact ⟨rfl, HB.out.trans (hb3.mono HB.out.size)⟩
  rw [nodeE_odd h1 h2 (by omega)]
  have hf : fk a op = .nilFunc := by simp [fk, h1, h2, h3, h4, h5, h6]
  clear HV HAd h1 h2 h3 h4 h5 h6
  generalize bs s = S at *
  have HF := Lib.hid hf
  clear hf
  go_enter Try.func80, Try.ntmps80
  go_wp2_with fail
  with_reducible refine (ckexprOf_any a op _).mono ?_
  rintro e w2 ⟨rfl, rfl⟩
  rw [HF.out]
  have hrun : ∀ W, Sem.run Try.prog (binOp BinOp.eql 128 .nilFunc .nilFunc) W = .ok (.bool true) W := fun W => by kernel_rfl
  go_wp2_with fail
  go_ret
  exact ⟨rfl, HB.out⟩
end Go.Proofs.Ytlgnagmmljdkiab.Lx
/-
  What an audit asks of conditions, as contracts: the nodes.
-/

namespace Go.Proofs.Ytlgnagmmljdkiab.Lx
open Go.RowKit
open P (wth EX CO ST PG setsB regsL nodeE nodeC eachX eachXs eachC eachCs withinX withinC dpX dpXs dpC dpCs andE regE locE)
set_option maxRecDepth 100000
set_option linter.unusedVariables false
set_option linter.unusedSimpArgs false

mutual
/-- Its numbers are ints, its names may be. -/
def wfC : CO → Prop
  | .mk o t s n ks => W64 o ∧ W64 t ∧ s.length ≤ maxLen ∧ W64 n ∧ wfCs ks
def wfCs : List CO → Prop
  | [] => True
  | e :: es => wfC e ∧ wfCs es
end
theorem wfCs_mem : ∀ {es : List CO}, wfCs es → ∀ e ∈ es, wfC e
  | [], _, e, he => by cases he
  | x :: es, h, e, he => by
    unfold wfCs at h
    rcases List.mem_cons.1 he with rfl | he
    · exact h.1
    · exact wfCs_mem h.2 e he
theorem five_cellsK {w : World} {g : Nat} {t : TypeId} {a c d e f : Value} (h : Blk w g t #[a, c, d, e, f]) : w.cell? ⟨g, 0, none⟩ = some a ∧ w.cell? ⟨g, 1, none⟩ = some c ∧ w.cell? ⟨g, 2, none⟩ = some d ∧ w.cell? ⟨g, 3, none⟩ = some e ∧ w.cell? ⟨g, 4, none⟩ = some f := ⟨h.cell 0, h.cell 1, h.cell 2, h.cell 3, h.cell 4⟩
/-- The threads' statements in memory. -/
def ThIn (w : World) (vt : Value) (ts : List (List ST)) : Prop := IsTs (fun _ => True) w vt ts ∧ ∀ l ∈ ts, wfSs l ∧ P.cntL l ≤ 100000
theorem ThIn.below {w w' : World} {vt : Value} {ts : List (List ST)} (h : ThIn w vt ts) (hb : Below w.heap.size w w') : ThIn w' vt ts := ⟨IsTs.step (fun b hq hl => ⟨hq, hb.block b hl⟩) h.1, h.2⟩
theorem lenI_is {α : Type} {ks : List α} {m : Int} (h : (ks.length : Int) = m) : ((ks.length : Int) == m) = true := by simpa using h
theorem lenI_no {α : Type} {ks : List α} {m : Int} (h : (ks.length : Int) ≠ m) : ((ks.length : Int) == m) = false := by simpa using h

set_option maxHeartbeats 6400000 in
theorem joins_any (m : Nat) (hm : m = 1 ∨ m = 2) (op t : Int) (s : List UInt8) (n : Int) (ks : List CO) (w : World) (v : Value) (z : Int) (hz : z = (m : Nat)) (hv : LC (fun _ => True) w v (.mk op t s n ks)) :
    Calls Try.prog 99 #[v, .int .i64 z] w (ErTo (if ks.length = m ∧ t = 0 ∧ s = [] ∧ n = 0 then 0 else 1) w) := by
  unfold LC at hv
  obtain ⟨ka, kc, rfl, _, _⟩ := hv
  have HB := Lib.hid (one_belowN w (.cells #[.int .i64 op, .int .i64 t, .string (bs s), .int .i64 n, .slice ka ks.length kc] 28))
  have HBX := Lib.hid (Blk.new w 28 #[.int .i64 op, .int .i64 t, .string (bs s), .int .i64 n, .slice ka ks.length kc])
  clear HBX
  by_cases h1 : ks.length = m
  · have t1 : ((ks.length : Int) == z) = true := lenI_is (by omega)
    by_cases h2 : t = 0
    · have t2 : (t == 0) = true := by simpa using h2
      by_cases h3 : s = []
      · obtain ⟨e1, e2⟩ := empty_is h3
        by_cases h4 : n = 0
        · have t4 : (n == 0) = true := by simpa using h4
          rw [if_pos ⟨h1, h2, h3, h4⟩]
          clear hm hz h1 h2 h3 h4
          generalize bs s = S at *
          go_enter Try.func99, Try.ntmps99
          go_wp2_with fail
          with_reducible refine (unless_any _ 1 _).mono ?_
          rintro e w2 ⟨rfl, rfl⟩
          go_wp2_with fail
          go_ret
          exact ⟨rfl, HB.out⟩
        · have t4 : (n == 0) = false := by simpa using h4
          rw [if_neg (fun hh => h4 hh.2.2.2)]
          clear hm hz h1 h2 h3 h4
          generalize bs s = S at *
          go_enter Try.func99, Try.ntmps99
          go_wp2_with fail
          with_reducible refine (unless_any _ 1 _).mono ?_
          rintro e w2 ⟨rfl, rfl⟩
          go_wp2_with fail
          go_ret
          exact ⟨rfl, HB.out⟩
      · obtain ⟨e1, e2⟩ := empty_no h3
        rw [if_neg (fun hh => h3 hh.2.2.1)]
        clear hm hz h1 h2 h3
        generalize bs s = S at *
        go_enter Try.func99, Try.ntmps99
        go_wp2_with fail
        with_reducible refine (unless_any _ 1 _).mono ?_
        rintro e w2 ⟨rfl, rfl⟩
        go_wp2_with fail
        go_ret
        exact ⟨rfl, HB.out⟩
    · have t2 : (t == 0) = false := by simpa using h2
      rw [if_neg (fun hh => h2 hh.2.1)]
      clear hm hz h1 h2
      generalize bs s = S at *
      go_enter Try.func99, Try.ntmps99
      go_wp2_with fail
      with_reducible refine (unless_any _ 1 _).mono ?_
      rintro e w2 ⟨rfl, rfl⟩
      go_wp2_with fail
      go_ret
      exact ⟨rfl, HB.out⟩
  · have t1 : ((ks.length : Int) == z) = false := lenI_no (by omega)
    rw [if_neg (fun hh => h1 hh.1)]
    clear hm hz h1
    generalize bs s = S at *
    go_enter Try.func99, Try.ntmps99
    go_wp2_with fail
    with_reducible refine (unless_any _ 1 _).mono ?_
    rintro e w2 ⟨rfl, rfl⟩
    go_wp2_with fail
    go_ret
    exact ⟨rfl, HB.out⟩

set_option maxHeartbeats 1600000 in
theorem cknot_any (a : Nat) (op t : Int) (s : List UInt8) (n : Int) (ks : List CO) (w : World) (v : Value) (hv : LC (fun _ => True) w v (.mk op t s n ks)) :
    Calls Try.prog 83 #[.pointer (some ⟨a, 0, none⟩), v] w (ErTo (if ks.length = 1 ∧ t = 0 ∧ s = [] ∧ n = 0 then 0 else 1) w) := by
  have hv0 := hv
  unfold LC at hv
  obtain ⟨ka, kc, rfl, _, _⟩ := hv
  have HB := Lib.hid (one_belowN w (.cells #[.int .i64 op, .int .i64 t, .string (bs s), .int .i64 n, .slice ka ks.length kc] 28))
  have HBX := Lib.hid (Blk.new w 28 #[.int .i64 op, .int .i64 t, .string (bs s), .int .i64 n, .slice ka ks.length kc])
  have HJ := Lib.hid (joins_any 1 (by omega) op t s n ks _ _ 1 rfl (LC.keep (Keeps.below HB.out (Nat.le_refl _)) _ hv0))
  clear hv0 HBX
  generalize (if ks.length = 1 ∧ t = 0 ∧ s = [] ∧ n = 0 then 0 else 1) = R at *
  generalize bs s = S at *
  go_enter Try.func83, Try.ntmps83
  go_wp2_with fail
  with_reducible refine HJ.out.mono ?_
  rintro e w2 ⟨rfl, hb2⟩
  go_wp2_with fail
  go_ret
  exact ⟨rfl, HB.out.trans (hb2.mono HB.out.size)⟩
set_option maxHeartbeats 1600000 in
theorem ckboth_any (a : Nat) (op t : Int) (s : List UInt8) (n : Int) (ks : List CO) (w : World) (v : Value) (hv : LC (fun _ => True) w v (.mk op t s n ks)) :
    Calls Try.prog 84 #[.pointer (some ⟨a, 0, none⟩), v] w (ErTo (if ks.length = 2 ∧ t = 0 ∧ s = [] ∧ n = 0 then 0 else 1) w) := by
  have hv0 := hv
  unfold LC at hv
  obtain ⟨ka, kc, rfl, _, _⟩ := hv
  have HB := Lib.hid (one_belowN w (.cells #[.int .i64 op, .int .i64 t, .string (bs s), .int .i64 n, .slice ka ks.length kc] 28))
  have HBX := Lib.hid (Blk.new w 28 #[.int .i64 op, .int .i64 t, .string (bs s), .int .i64 n, .slice ka ks.length kc])
  have HJ := Lib.hid (joins_any 2 (by omega) op t s n ks _ _ 2 rfl (LC.keep (Keeps.below HB.out (Nat.le_refl _)) _ hv0))
  clear hv0 HBX
  generalize (if ks.length = 2 ∧ t = 0 ∧ s = [] ∧ n = 0 then 0 else 1) = R at *
  generalize bs s = S at *
  go_enter Try.func84, Try.ntmps84
  go_wp2_with fail
  with_reducible refine HJ.out.mono ?_
  rintro e w2 ⟨rfl, hb2⟩
  go_wp2_with fail
  go_ret
  exact ⟨rfl, HB.out.trans (hb2.mono HB.out.size)⟩
theorem val_if (b : Prop) [Decidable b] : (if b then (0 : Nat) else 1) = (if decide b = true then 0 else 1) := by by_cases h : b <;> simp [h]
set_option maxHeartbeats 6400000 in
theorem ckmem_any {B a : Nat} {x : PV} {part : Int} {lv : Value} {lm : Option Nat} {st : Int} {locs regs : List (List UInt8)} {w : World} (h : Ad B a x part lv lm st locs regs w) (t : Int) (s : List UInt8) (n : Int) (ks : List CO) (hs : s.length ≤ maxLen) (v : Value) (hv : LC (fun _ => True) w v (.mk 1 t s n ks)) :
    Calls Try.prog 81 #[.pointer (some ⟨a, 0, none⟩), v] w (ErTo (if 0 < ks.length ∨ t ≠ 0 then 1 else if s ∈ locs then (if 0 ≤ n ∧ n < x.vals then 0 else 1) else 4) w) := by
  unfold LC at hv
  obtain ⟨ka, kc, rfl, _, _⟩ := hv
  have HB := Lib.hid (one_belowN w (.cells #[.int .i64 1, .int .i64 t, .string (bs s), .int .i64 n, .slice ka ks.length kc] 28))
  have HBX := Lib.hid (Blk.new w 28 #[.int .i64 1, .int .i64 t, .string (bs s), .int .i64 n, .slice ka ks.length kc])
  by_cases h1 : 0 < ks.length
  · obtain ⟨t1, t2⟩ := lens_pos h1
    rw [if_pos (.inl h1)]
    clear h h1 hs HBX
    generalize bs s = S at *
    go_enter Try.func81, Try.ntmps81
    go_wp2_with fail
    go_ret
    exact ⟨rfl, HB.out⟩
  obtain ⟨t1, t2⟩ := lens_zero h1
  by_cases h2 : t = 0
  · rw [if_neg (fun hh => hh.elim h1 (fun k => k h2))]
    have e1 : (t == 0) = true := by simpa using h2
    have e2 : (t != 0) = false := by simpa using h2
    have HR := Lib.hid (fun w' (hb : Below w.heap.size w w') => (h.below hb).hasL s hs)
    have HV := Lib.hid (fun w' (hb : Below w.heap.size w w') => value_any (h.below hb) n)
    rw [val_if]
    by_cases hin : s ∈ locs
    · rw [if_pos hin]
      rw [decide_eq_true hin] at HR
      clear h h1 h2 hs hin
      generalize bs s = S at *
      generalize decide (0 ≤ n ∧ n < x.vals) = bb at *
      cases bb
      all_goals
        go_enter Try.func81, Try.ntmps81
        go_wp2_with fail
        generalize hW : w.alloc (.cells #[.int .i64 1, .int .i64 t, .string S, .int .i64 n, .slice ka ks.length kc] 28) = W at *
        clear hW
        have hbD : Below w.heap.size w W.drew := HB.out.drew
        have HK0 := Lib.hid (show W.cell? ⟨w.heap.size, 2, none⟩ = some (.string S) from HBX.out.cell 2)
        have HKD := Lib.hid (show W.drew.cell? ⟨w.heap.size, 2, none⟩ = some (.string S) from HBX.out.cell 2)
        have HX := Lib.hid (show ∀ w', Below W.heap.size W w' → w'.cell? ⟨w.heap.size, 2, none⟩ = some (.string S) from fun w' hb => (HBX.out.live' hb).cell 2)
        have HX3 := Lib.hid (show ∀ w', Below W.heap.size W w' → w'.cell? ⟨w.heap.size, 3, none⟩ = some (.int .i64 n) from fun w' hb => (HBX.out.live' hb).cell 3)
        have hs1 := HB.out.size
        go_region_held3 (fun w' => w'.cell? ⟨w.heap.size, 2, none⟩ = some (.string S))
          (first
            | with_reducible exact HK0.out
            | with_reducible exact HKD.out
            | with_reducible assumption
            | go_keep)
          ((go_at_call 57; (with_reducible refine (HR.out _ (by first | assumption | exact HB.out)).mono ?_); rintro e w7 ⟨rfl, hb7w⟩; have hb7 := bel_step hb7w; have hS7 := HX.out w7 hb7))
        all_goals
          have HB7 := Lib.hid (HB.out.trans (hb7.mono HB.out.size))
          have q3 := HX3.out w7 hb7
          clear hb7
          go_wp2_with fail
          with_reducible refine (HV.out _ HB7.out).mono ?_
          rintro e w8 ⟨rfl, rfl⟩
          go_wp2_with fail
          with_reducible refine (unless_any _ 1 _).mono ?_
          rintro e w9 ⟨rfl, rfl⟩
          go_wp2_with fail
          go_ret
          exact ⟨rfl, HB7.out⟩
    · rw [if_neg hin]
      rw [decide_eq_false hin] at HR
      clear h h1 h2 hs hin HV
      generalize bs s = S at *
      go_enter Try.func81, Try.ntmps81
      go_wp2_with fail
      generalize hW : w.alloc (.cells #[.int .i64 1, .int .i64 t, .string S, .int .i64 n, .slice ka ks.length kc] 28) = W at *
      clear hW
      have hbD : Below w.heap.size w W.drew := HB.out.drew
      have HK0 := Lib.hid (show W.cell? ⟨w.heap.size, 2, none⟩ = some (.string S) from HBX.out.cell 2)
      have HKD := Lib.hid (show W.drew.cell? ⟨w.heap.size, 2, none⟩ = some (.string S) from HBX.out.cell 2)
      have HX := Lib.hid (show ∀ w', Below W.heap.size W w' → w'.cell? ⟨w.heap.size, 2, none⟩ = some (.string S) from fun w' hb => (HBX.out.live' hb).cell 2)
      have HX3 := Lib.hid (show ∀ w', Below W.heap.size W w' → w'.cell? ⟨w.heap.size, 3, none⟩ = some (.int .i64 n) from fun w' hb => (HBX.out.live' hb).cell 3)
      have hs1 := HB.out.size
      go_region_held3 (fun w' => w'.cell? ⟨w.heap.size, 2, none⟩ = some (.string S))
        (first
          | with_reducible exact HK0.out
          | with_reducible exact HKD.out
          | with_reducible assumption
          | go_keep)
        ((go_at_call 57; (with_reducible refine (HR.out _ (by first | assumption | exact HB.out)).mono ?_); rintro e w7 ⟨rfl, hb7w⟩; have hb7 := bel_step hb7w; have hS7 := HX.out w7 hb7))
      all_goals
        go_wp2_with fail
        go_ret
        exact ⟨rfl, HB.out.trans (hb7.mono HB.out.size)⟩
  · have e1 : (t == 0) = false := by simpa using h2
    have e2 : (t != 0) = true := by simpa using h2
    rw [if_pos (.inr h2)]
    clear h h1 h2 hs HBX
    generalize bs s = S at *
    go_enter Try.func81, Try.ntmps81
    go_wp2_with fail
    go_ret
    exact ⟨rfl, HB.out⟩

theorem bel_drewNK (w : World) (n : Nat) : Below w.heap.size w (w.drewN n) := by
  have h := Below.refl w.heap.size w
  exact ⟨h.os, h.tape, h.output, h.size, h.block⟩
theorem kq_below {n : Nat} {w0 w2 w7 : World} (h : Kq (n + 1) n w2 w7) (hb : Below n w0 w2) (hn : n ≤ w2.heap.size) : Below n w0 w7 := hb.trans (h.only.below hn (fun k hk e => by rcases e with e | e <;> omega))
theorem na_new (w : World) : NA (w.heap.size + 1) w.heap.size 0 74 #[.slice none 0 0, .map none] [] (w.alloc (.cells #[.slice none 0 0, .map none] 74)) := ⟨.slice none 0 0, none, Blk.new w _ _, nmvNil _ _⟩

set_option maxHeartbeats 12800000 in
theorem ckregIs_any {B a : Nat} {x : PV} {part : Int} {lv : Value} {lm : Option Nat} {st : Int} {locs regs : List (List UInt8)} {w : World} (h : Ad B a x part lv lm st locs regs w) {ts : List (List ST)} {va : Option Addr} {vc : Nat} (hx : x.vt = .slice va ts.length vc) (hth : ThIn w x.vt ts) (t : Int) (s : List UInt8) (n : Int) (ks : List CO) (hs : s.length ≤ maxLen) (v : Value) (hv : LC (fun _ => True) w v (.mk 2 t s n ks)) :
    Calls Try.prog 82 #[.pointer (some ⟨a, 0, none⟩), v] w (ErTo (if 0 < ks.length ∨ t < 0 ∨ (ts.length : Int) ≤ t then 1 else if s ∈ regsL [] (ts.getD t.toNat []) then (if 0 ≤ n ∧ n < x.vals then 0 else 1) else 4) w) := by
  unfold LC at hv
  obtain ⟨ka, kc, rfl, _, _⟩ := hv
  have HB := Lib.hid (one_belowN w (.cells #[.int .i64 2, .int .i64 t, .string (bs s), .int .i64 n, .slice ka ks.length kc] 28))
  have HBX := Lib.hid (Blk.new w 28 #[.int .i64 2, .int .i64 t, .string (bs s), .int .i64 n, .slice ka ks.length kc])
  have htl : ts.length ≤ maxLen := by
    obtain ⟨_, _, _, h, _⟩ := hth.1
    exact h
  unfold maxLen at htl
  obtain ⟨nm, vals, vi, vt, ask, o', t', s', n', ka', km', kc'⟩ := x
  simp only at hx
  subst hx
  have HAd := Lib.hid h
  by_cases h1 : 0 < ks.length
  · obtain ⟨t1, t2⟩ := lens_pos h1
    rw [if_pos (.inl h1)]
    clear h h1 hs
    generalize bs s = S at *
    go_enter Try.func82, Try.ntmps82
    go_wp2_with fail
    generalize hW : w.alloc (.cells #[.int .i64 2, .int .i64 t, .string S, .int .i64 n, .slice ka ks.length kc] 28) = W at *
    clear hW
    obtain ⟨rv, rm, g1, _⟩ := HAd.out.below HB.out
    have v3 := g1.cell 3
    have v3' : W.cell? ⟨a, 3, none⟩ = some (.slice va ts.length vc) := v3
    obtain ⟨q0, q1, q2, q3, q4⟩ := five_cellsK HBX.out
    clear v3 g1
    go_quiet (fail)
    go_wp2_with fail
    go_ret
    exact ⟨rfl, HB.out.trans ((bel_drewNK _ _).mono HB.out.size)⟩
  obtain ⟨t1, t2⟩ := lens_zero h1
  by_cases h2 : t < 0
  · rw [if_pos (.inr (.inl h2))]
    have e2 : decide (t < 0) = true := decide_eq_true h2
    clear h h1 hs
    generalize bs s = S at *
    go_enter Try.func82, Try.ntmps82
    go_wp2_with fail
    generalize hW : w.alloc (.cells #[.int .i64 2, .int .i64 t, .string S, .int .i64 n, .slice ka ks.length kc] 28) = W at *
    clear hW
    obtain ⟨rv, rm, g1, _⟩ := HAd.out.below HB.out
    have v3 := g1.cell 3
    have v3' : W.cell? ⟨a, 3, none⟩ = some (.slice va ts.length vc) := v3
    obtain ⟨q0, q1, q2, q3, q4⟩ := five_cellsK HBX.out
    clear v3 g1
    go_quiet (fail)
    go_wp2_with fail
    go_ret
    exact ⟨rfl, HB.out.trans ((bel_drewNK _ _).mono HB.out.size)⟩
  have e2 : decide (t < 0) = false := decide_eq_false h2
  by_cases h3 : (ts.length : Int) ≤ t
  · rw [if_pos (.inr (.inr h3))]
    have e3 : decide ((ts.length : Int) ≤ t) = true := decide_eq_true h3
    clear h h1 hs
    generalize bs s = S at *
    go_enter Try.func82, Try.ntmps82
    go_wp2_with fail
    generalize hW : w.alloc (.cells #[.int .i64 2, .int .i64 t, .string S, .int .i64 n, .slice ka ks.length kc] 28) = W at *
    clear hW
    obtain ⟨rv, rm, g1, _⟩ := HAd.out.below HB.out
    have v3 := g1.cell 3
    have v3' : W.cell? ⟨a, 3, none⟩ = some (.slice va ts.length vc) := v3
    obtain ⟨q0, q1, q2, q3, q4⟩ := five_cellsK HBX.out
    clear v3 g1
    go_quiet (fail)
    go_wp2_with fail
    go_ret
    exact ⟨rfl, HB.out.trans ((bel_drewNK _ _).mono HB.out.size)⟩
  have e3 : decide ((ts.length : Int) ≤ t) = false := decide_eq_false h3
  rw [if_neg (by rintro (hh | hh | hh); exact h1 hh; exact h2 hh; exact h3 hh)]
  have hti : t.toNat < ts.length := by omega
  have hits := hth.1
  obtain ⟨va', vc', hve, _, hrow⟩ := hits
  injection hve with g1 g2 g3
  subst g1 g3
  rcases hrow with hrow | ⟨gt, ot, rfl, _, hts⟩
  · rw [hrow] at hti
    simp at hti
  obtain ⟨l, vl, hl, hcl, hvl⟩ := LTs.at ts hts t.toNat hti
  have hgd : ts.getD t.toNat [] = l := by rw [List.getD_eq_getElem?_getD, hl]; rfl
  rw [hgd]
  obtain ⟨hwl, hcnt⟩ := hth.2 l (List.mem_of_getElem? hl)
  obtain ⟨la, lc, rfl, hlm, hlr⟩ := hvl
  have HCL := Lib.hid hcl
  have HLR := Lib.hid (show ∀ W, Below w.heap.size w W → RowS (fun k => k < W.heap.size) W la l from fun W hb => by
    rcases hlr with h0 | ⟨gl, ol, e, _, hsl⟩
    · exact .inl h0
    · by_cases hle : l = []
      · exact .inl hle
      · have h5 := LSs.keep (Keeps.below hb (Nat.le_refl _)) l trivial hsl
        have hlt : gl < W.heap.size := by
          cases l with
          | nil => exact absurd rfl hle
          | cons e0 es0 =>
            obtain ⟨e1, c0, _, _, _, _, _, _, _, hc0, _⟩ := LSs.at _ h5 0 (by simp)
            exact World.block_lt_of_cell? W _ hc0
        exact .inr ⟨gl, ol, e, hlt, LSs.mono (fun k _ hk => hk) l h5⟩)
  have HWL := Lib.hid hwl
  have HLM := Lib.hid hlm
  have HV := Lib.hid (fun w' (hb : Below w.heap.size w w') => value_any (h.below hb) n)
  have HS := Lib.hid hs
  rw [val_if]
  clear hth hts hl hgd hlr hcl hwl hlm h h1 h2 h3 hs
  have d5 : 0 ≤ t := by have := e2; simp at this; omega
  have d6 : t < (ts.length : Int) := by omega
  generalize decide (0 ≤ n ∧ n < vals) = bb at *
  generalize hRS : regsL [] l = RS at *
  have HRS := Lib.hid hRS
  clear hRS
  by_cases hin : s ∈ RS
  all_goals
    first
      | (rw [if_pos hin]; have hdin := decide_eq_true hin)
      | (rw [if_neg hin]; have hdin := decide_eq_false hin)
    have HDI := Lib.hid hdin
    clear hin hdin
    generalize hSS : bs s = S at *
    have HSS := Lib.hid hSS
    clear hSS
    cases bb
    all_goals
      go_enter Try.func82, Try.ntmps82
      go_wp2_with fail
      generalize hW : w.alloc (.cells #[.int .i64 2, .int .i64 t, .string S, .int .i64 n, .slice ka ks.length kc] 28) = W at *
      clear hW
      obtain ⟨rv, rm, g1, _⟩ := HAd.out.below HB.out
      have v3 := g1.cell 3
      have v3' : W.cell? ⟨a, 3, none⟩ = some (.slice (some ⟨gt, ot, none⟩) ts.length vc) := v3
      obtain ⟨q0, q1, q2, q3, q4⟩ := five_cellsK HBX.out
      clear v3 g1
      go_quiet (fail)
      go_wp2_with fail

      have HW0 := Lib.hid (bel_drewNK W nq)
      have HNAx := Lib.hid (na_new (W.drewN nq))
      have hal := one_belowN (W.drewN nq) (.cells #[.slice none 0 0, .map none] 74)
      have hWs : (W.drewN nq).heap.size = W.heap.size := rfl
      have HB2 := Lib.hid (show Below W.heap.size W ((W.drewN nq).alloc (.cells #[.slice none 0 0, .map none] 74)) from HW0.out.trans hal)
      have HZ2 := Lib.hid (show ((W.drewN nq).alloc (.cells #[.slice none 0 0, .map none] 74)).heap.size = W.heap.size + 1 by simp [hWs])
      clear q0 q1 q2 q3 q4 v3' hal
      generalize hW2 : (W.drewN nq).alloc (.cells #[.slice none 0 0, .map none] 74) = W2 at *
      clear hW2
      rw [hWs] at HNAx
      have HST := Lib.hid (show ∀ w', Below W.heap.size W w' → (w'.cell? ⟨a, 3, none⟩ = some (.slice (some ⟨gt, ot, none⟩) ts.length vc) ∧ w'.cell? ⟨w.heap.size, 1, none⟩ = some (.int .i64 t) ∧ w'.cell? ⟨gt, ot + t.toNat, none⟩ = some (.slice la l.length lc)) from fun w' hb => (by
        obtain ⟨rv', rm', g1', _⟩ := (HAd.out.below HB.out).below hb
        exact ⟨g1'.cell 3, (HBX.out.live' hb).cell 1, ((HB.out.trans (hb.mono HB.out.size)).cell (p := ⟨gt, ot + t.toNat, none⟩) (World.block_lt_of_cell? w _ HCL.out)).trans HCL.out⟩))
      have HK0 := Lib.hid (HST.out W2 HB2.out)
      have HKD := Lib.hid (HST.out W2.drew HB2.out.drew)
      have HBD := Lib.hid (HB2.out.drew)
      have hw2s := HZ2.out
      have HLW := Lib.hid (show RowS (fun k => k < W.heap.size + 1 ∧ k ≠ W.heap.size) W2.drew la l from (by
        have h5 := (HLR.out W HB.out).keep (Keeps.below HB2.out.drew (Nat.le_refl _))
        rcases h5 with h5 | ⟨gl, ol, e, hg, hsl⟩
        · exact .inl h5
        · exact .inr ⟨gl, ol, e, ⟨by omega, by omega⟩, LSs.mono (fun k hk _ => ⟨by omega, by omega⟩) l hsl⟩))
      have HAS := Lib.hid (addSet_any (W.heap.size + 1) W.heap.size 0 74 #[.slice none 0 0, .map none] (by decide) (by decide) (sizeSs l + 1) l (by omega) [] la lc W2.drew (HNAx.out.below (by have h := Below.refl W2.heap.size W2; exact h.drew)) HLW.out (by have : W2.drew.heap.size = W2.heap.size := rfl; omega) HLM.out (by simp; omega) HWL.out)
      clear hw2s
      go_region_held3 (fun w' => w'.cell? ⟨a, 3, none⟩ = some (.slice (some ⟨gt, ot, none⟩) ts.length vc) ∧ w'.cell? ⟨w.heap.size, 1, none⟩ = some (.int .i64 t) ∧ w'.cell? ⟨gt, ot + t.toNat, none⟩ = some (.slice la l.length lc))
        (first
          | with_reducible exact HK0.out
          | with_reducible exact HKD.out
          | with_reducible assumption
          | go_keep)
        ((go_at_call 35; (with_reducible refine HAS.out.mono ?_); rintro e w7 ⟨rfl, hn7, hk7⟩; have hb7 := kq_below hk7 HBD.out HBD.out.size; have hS7 := HST.out w7 hb7))
      all_goals
        have HN7 := Lib.hid hn7
        have HB7 := Lib.hid hb7
        obtain ⟨q0, q1, q2, q3, q4⟩ := five_cellsK (HBX.out.live' hb7)
        have hha := has_at hn7 (by decide) s HS.out
        rw [HRS.out, HDI.out, HSS.out] at hha
        have HHA := Lib.hid hha
        clear hn7 hk7 hb7 hS7 hha
        go_wp2_with fail
        with_reducible refine HHA.out.mono ?_
        rintro e w8 ⟨rfl, hb8⟩
        have HB8 := Lib.hid (HB7.out.trans (hb8.mono HB7.out.size))
        clear hb8 q0 q1 q2 q3 q4
        obtain ⟨q0, q1, q2, q3, q4⟩ := five_cellsK (HBX.out.live' HB8.out)
        have HBE := Lib.hid (HB.out.trans (HB8.out.mono HB.out.size))
        have HVE := Lib.hid (HV.out w8 HBE.out)
        go_wp2_with (first
          | (go_at_call 58; (with_reducible refine HVE.out.mono ?_); rintro e w9 ⟨rfl, rfl⟩)
          | (go_at_call 40; (with_reducible refine (unless_any _ 1 _).mono ?_); rintro e w9 ⟨rfl, rfl⟩))
        go_ret
        exact ⟨rfl, HBE.out⟩

/-- What asks conditions of that Op. -/
def fkc (a : Nat) (op : Int) : Value := if op = 1 then .func (.func 81) #[.pointer (some ⟨a, 0, none⟩)] #[] else if op = 2 then .func (.func 82) #[.pointer (some ⟨a, 0, none⟩)] #[] else if op = 3 then .func (.func 83) #[.pointer (some ⟨a, 0, none⟩)] #[] else if op = 4 then .func (.func 84) #[.pointer (some ⟨a, 0, none⟩)] #[] else if op = 5 then .func (.func 84) #[.pointer (some ⟨a, 0, none⟩)] #[] else .nilFunc
set_option maxHeartbeats 1600000 in
theorem ckcondOf_any (a : Nat) (op : Int) (w : World) : Calls Try.prog 62 #[.pointer (some ⟨a, 0, none⟩), .int .i64 op] w (fun e w' => e = .returned (fkc a op) ∧ w = w') := by
  by_cases h1 : op = 1
  · subst h1
    show Calls Try.prog 62 #[.pointer (some ⟨a, 0, none⟩), .int .i64 1] w (fun e w' => e = .returned (.func (.func 81) #[.pointer (some ⟨a, 0, none⟩)] #[]) ∧ w = w')
    go_enter Try.func62, Try.ntmps62
    go_wp2_with fail
    go_ret
    exact ⟨rfl, rfl⟩
  by_cases h2 : op = 2
  · subst h2
    show Calls Try.prog 62 #[.pointer (some ⟨a, 0, none⟩), .int .i64 2] w (fun e w' => e = .returned (.func (.func 82) #[.pointer (some ⟨a, 0, none⟩)] #[]) ∧ w = w')
    go_enter Try.func62, Try.ntmps62
    go_wp2_with fail
    go_ret
    exact ⟨rfl, rfl⟩
  by_cases h3 : op = 3
  · subst h3
    show Calls Try.prog 62 #[.pointer (some ⟨a, 0, none⟩), .int .i64 3] w (fun e w' => e = .returned (.func (.func 83) #[.pointer (some ⟨a, 0, none⟩)] #[]) ∧ w = w')
    go_enter Try.func62, Try.ntmps62
    go_wp2_with fail
    go_ret
    exact ⟨rfl, rfl⟩
  by_cases h4 : op = 4
  · subst h4
    show Calls Try.prog 62 #[.pointer (some ⟨a, 0, none⟩), .int .i64 4] w (fun e w' => e = .returned (.func (.func 84) #[.pointer (some ⟨a, 0, none⟩)] #[]) ∧ w = w')
    go_enter Try.func62, Try.ntmps62
    go_wp2_with fail
    go_ret
    exact ⟨rfl, rfl⟩
  by_cases h5 : op = 5
  · subst h5
    show Calls Try.prog 62 #[.pointer (some ⟨a, 0, none⟩), .int .i64 5] w (fun e w' => e = .returned (.func (.func 84) #[.pointer (some ⟨a, 0, none⟩)] #[]) ∧ w = w')
    go_enter Try.func62, Try.ntmps62
    go_wp2_with fail
    go_ret
    exact ⟨rfl, rfl⟩
  have e1 : (op == 1) = false := by simp; omega
  have e2 : (op == 2) = false := by simp; omega
  have e3 : (op == 3) = false := by simp; omega
  have e4 : (op == 4) = false := by simp; omega
  have e5 : (op == 5) = false := by simp; omega
  have hf : fkc a op = .nilFunc := by simp [fkc, h1, h2, h3, h4, h5]
  rw [hf]
  clear hf
  go_enter Try.func62, Try.ntmps62
  go_wp2_with fail
  go_ret
  exact ⟨rfl, rfl⟩
theorem nodeC_odd {vals : Int} {locs : List (List UInt8)} {ts : List (List ST)} {op t n : Int} {s : List UInt8} {ks : List CO} (h1 : op ≠ 1) (h2 : op ≠ 2) (h3 : op ≠ 3) (h4 : ¬ (op = 4 ∨ op = 5)) : nodeC vals locs ts (.mk op t s n ks) = 1 := by
  unfold P.nodeC
  simp only [if_neg h1, if_neg h2, if_neg h3, if_neg h4]
set_option maxHeartbeats 12800000 in
theorem ckcond_any {B a : Nat} {x : PV} {part : Int} {lv : Value} {lm : Option Nat} {st : Int} {locs regs : List (List UInt8)} {w : World} (h : Ad B a x part lv lm st locs regs w) {ts : List (List ST)} {va : Option Addr} {vc : Nat} (hx : x.vt = .slice va ts.length vc) (hth : ThIn w x.vt ts) (e : CO) (v : Value) (hv : LC (fun _ => True) w v e) (hw : wfC e) :
    Calls Try.prog 46 #[.pointer (some ⟨a, 0, none⟩), v] w (ErTo (nodeC x.vals locs ts e) w) := by
  obtain ⟨op, t, s, n, ks⟩ := e
  have hv0 := hv
  unfold LC at hv0
  obtain ⟨ka, kc, rfl, _, _⟩ := hv0
  unfold wfC at hw
  obtain ⟨_, _, hs, _, _⟩ := hw
  have HB := Lib.hid (one_belowN w (.cells #[.int .i64 op, .int .i64 t, .string (bs s), .int .i64 n, .slice ka ks.length kc] 28))
  have HAd := Lib.hid (h.below HB.out)
  have HTH := Lib.hid (hth.below HB.out)
  have HV := Lib.hid (LC.keep (Keeps.below HB.out (Nat.le_refl _)) _ hv)
  have HS := Lib.hid hs
  have HXV := Lib.hid hx
  clear h hv hs hth hx
  by_cases h1 : op = 1
  · subst h1
    show Calls Try.prog 46 #[.pointer (some ⟨a, 0, none⟩), .agg #[.int .i64 1, .int .i64 t, .string (bs s), .int .i64 n, .slice ka ks.length kc]] w (ErTo (if 0 < ks.length ∨ t ≠ 0 then 1 else if s ∈ locs then (if 0 ≤ n ∧ n < x.vals then 0 else 1) else 4) w)
    have HA := Lib.hid (ckmem_any HAd.out t s n ks HS.out _ HV.out)
    have HBX := Lib.hid (Blk.new w 28 #[.int .i64 1, .int .i64 t, .string (bs s), .int .i64 n, .slice ka ks.length kc])
    clear HV
    generalize (if 0 < ks.length ∨ t ≠ 0 then 1 else if s ∈ locs then (if 0 ≤ n ∧ n < x.vals then 0 else 1) else 4) = R at *
    generalize bs s = S at *
    go_enter Try.func46, Try.ntmps46
    go_wp2_with fail
    generalize hW : w.alloc (.cells #[.int .i64 1, .int .i64 t, .string S, .int .i64 n, .slice ka ks.length kc] 28) = W at *
    clear hW
    obtain ⟨q0, q1, q2, q3, q4⟩ := five_cellsK HBX.out
    with_reducible refine (ckcondOf_any a 1 W).mono ?_
    rintro e w2 ⟨rfl, rfl⟩
    rw [show fkc a 1 = .func (.func 81) #[.pointer (some ⟨a, 0, none⟩)] #[] from rfl]
    have hrun : Sem.run Try.prog (binOp BinOp.eql 101 (.func (.func 81) #[.pointer (some ⟨a, 0, none⟩)] #[]) .nilFunc) W = .ok (.bool false) W := by kernel_rfl
    go_wp2_with fail
    with_reducible refine HA.out.mono ?_
    rintro e w3 ⟨rfl, hb3⟩
    go_wp2_with fail
    go_ret
    exact ⟨rfl, HB.out.trans (hb3.mono HB.out.size)⟩
  by_cases h2 : op = 2
  · subst h2
    show Calls Try.prog 46 #[.pointer (some ⟨a, 0, none⟩), .agg #[.int .i64 2, .int .i64 t, .string (bs s), .int .i64 n, .slice ka ks.length kc]] w (ErTo (if 0 < ks.length ∨ t < 0 ∨ (ts.length : Int) ≤ t then 1 else if s ∈ regsL [] (ts.getD t.toNat []) then (if 0 ≤ n ∧ n < x.vals then 0 else 1) else 4) w)
    have HA := Lib.hid (ckregIs_any HAd.out HXV.out HTH.out t s n ks HS.out _ HV.out)
    have HBX := Lib.hid (Blk.new w 28 #[.int .i64 2, .int .i64 t, .string (bs s), .int .i64 n, .slice ka ks.length kc])
    clear HV
    generalize (if 0 < ks.length ∨ t < 0 ∨ (ts.length : Int) ≤ t then 1 else if s ∈ regsL [] (ts.getD t.toNat []) then (if 0 ≤ n ∧ n < x.vals then 0 else 1) else 4) = R at *
    generalize bs s = S at *
    go_enter Try.func46, Try.ntmps46
    go_wp2_with fail
    generalize hW : w.alloc (.cells #[.int .i64 2, .int .i64 t, .string S, .int .i64 n, .slice ka ks.length kc] 28) = W at *
    clear hW
    obtain ⟨q0, q1, q2, q3, q4⟩ := five_cellsK HBX.out
    with_reducible refine (ckcondOf_any a 2 W).mono ?_
    rintro e w2 ⟨rfl, rfl⟩
    rw [show fkc a 2 = .func (.func 82) #[.pointer (some ⟨a, 0, none⟩)] #[] from rfl]
    have hrun : Sem.run Try.prog (binOp BinOp.eql 101 (.func (.func 82) #[.pointer (some ⟨a, 0, none⟩)] #[]) .nilFunc) W = .ok (.bool false) W := by kernel_rfl
    go_wp2_with fail
    with_reducible refine HA.out.mono ?_
    rintro e w3 ⟨rfl, hb3⟩
    go_wp2_with fail
    go_ret
    exact ⟨rfl, HB.out.trans (hb3.mono HB.out.size)⟩
  by_cases h3 : op = 3
  · subst h3
    show Calls Try.prog 46 #[.pointer (some ⟨a, 0, none⟩), .agg #[.int .i64 3, .int .i64 t, .string (bs s), .int .i64 n, .slice ka ks.length kc]] w (ErTo (if ks.length = 1 ∧ t = 0 ∧ s = [] ∧ n = 0 then 0 else 1) w)
    have HA := Lib.hid (cknot_any a 3 t s n ks _ _ HV.out)
    have HBX := Lib.hid (Blk.new w 28 #[.int .i64 3, .int .i64 t, .string (bs s), .int .i64 n, .slice ka ks.length kc])
    clear HV
    generalize (if ks.length = 1 ∧ t = 0 ∧ s = [] ∧ n = 0 then 0 else 1) = R at *
    generalize bs s = S at *
    go_enter Try.func46, Try.ntmps46
    go_wp2_with fail
    generalize hW : w.alloc (.cells #[.int .i64 3, .int .i64 t, .string S, .int .i64 n, .slice ka ks.length kc] 28) = W at *
    clear hW
    obtain ⟨q0, q1, q2, q3, q4⟩ := five_cellsK HBX.out
    with_reducible refine (ckcondOf_any a 3 W).mono ?_
    rintro e w2 ⟨rfl, rfl⟩
    rw [show fkc a 3 = .func (.func 83) #[.pointer (some ⟨a, 0, none⟩)] #[] from rfl]
    have hrun : Sem.run Try.prog (binOp BinOp.eql 101 (.func (.func 83) #[.pointer (some ⟨a, 0, none⟩)] #[]) .nilFunc) W = .ok (.bool false) W := by kernel_rfl
    go_wp2_with fail
    with_reducible refine HA.out.mono ?_
    rintro e w3 ⟨rfl, hb3⟩
    go_wp2_with fail
    go_ret
    exact ⟨rfl, HB.out.trans (hb3.mono HB.out.size)⟩
  by_cases h4 : op = 4
  · subst h4
    show Calls Try.prog 46 #[.pointer (some ⟨a, 0, none⟩), .agg #[.int .i64 4, .int .i64 t, .string (bs s), .int .i64 n, .slice ka ks.length kc]] w (ErTo (if ks.length = 2 ∧ t = 0 ∧ s = [] ∧ n = 0 then 0 else 1) w)
    have HA := Lib.hid (ckboth_any a 4 t s n ks _ _ HV.out)
    have HBX := Lib.hid (Blk.new w 28 #[.int .i64 4, .int .i64 t, .string (bs s), .int .i64 n, .slice ka ks.length kc])
    clear HV
    generalize (if ks.length = 2 ∧ t = 0 ∧ s = [] ∧ n = 0 then 0 else 1) = R at *
    generalize bs s = S at *
    go_enter Try.func46, Try.ntmps46
    go_wp2_with fail
    generalize hW : w.alloc (.cells #[.int .i64 4, .int .i64 t, .string S, .int .i64 n, .slice ka ks.length kc] 28) = W at *
    clear hW
    obtain ⟨q0, q1, q2, q3, q4⟩ := five_cellsK HBX.out
    with_reducible refine (ckcondOf_any a 4 W).mono ?_
    rintro e w2 ⟨rfl, rfl⟩
    rw [show fkc a 4 = .func (.func 84) #[.pointer (some ⟨a, 0, none⟩)] #[] from rfl]
    have hrun : Sem.run Try.prog (binOp BinOp.eql 101 (.func (.func 84) #[.pointer (some ⟨a, 0, none⟩)] #[]) .nilFunc) W = .ok (.bool false) W := by kernel_rfl
    go_wp2_with fail
    with_reducible refine HA.out.mono ?_
    rintro e w3 ⟨rfl, hb3⟩
    go_wp2_with fail
    go_ret
    exact ⟨rfl, HB.out.trans (hb3.mono HB.out.size)⟩
  by_cases h5 : op = 5
  · subst h5
    show Calls Try.prog 46 #[.pointer (some ⟨a, 0, none⟩), .agg #[.int .i64 5, .int .i64 t, .string (bs s), .int .i64 n, .slice ka ks.length kc]] w (ErTo (if ks.length = 2 ∧ t = 0 ∧ s = [] ∧ n = 0 then 0 else 1) w)
    have HA := Lib.hid (ckboth_any a 5 t s n ks _ _ HV.out)
    have HBX := Lib.hid (Blk.new w 28 #[.int .i64 5, .int .i64 t, .string (bs s), .int .i64 n, .slice ka ks.length kc])
    clear HV
    generalize (if ks.length = 2 ∧ t = 0 ∧ s = [] ∧ n = 0 then 0 else 1) = R at *
    generalize bs s = S at *
    go_enter Try.func46, Try.ntmps46
    go_wp2_with fail
    generalize hW : w.alloc (.cells #[.int .i64 5, .int .i64 t, .string S, .int .i64 n, .slice ka ks.length kc] 28) = W at *
    clear hW
    obtain ⟨q0, q1, q2, q3, q4⟩ := five_cellsK HBX.out
    with_reducible refine (ckcondOf_any a 5 W).mono ?_
    rintro e w2 ⟨rfl, rfl⟩
    rw [show fkc a 5 = .func (.func 84) #[.pointer (some ⟨a, 0, none⟩)] #[] from rfl]
    have hrun : Sem.run Try.prog (binOp BinOp.eql 101 (.func (.func 84) #[.pointer (some ⟨a, 0, none⟩)] #[]) .nilFunc) W = .ok (.bool false) W := by kernel_rfl
    go_wp2_with fail
    with_reducible refine HA.out.mono ?_
    rintro e w3 ⟨rfl, hb3⟩
    go_wp2_with fail
    go_ret
    exact ⟨rfl, HB.out.trans (hb3.mono HB.out.size)⟩
  rw [nodeC_odd h1 h2 h3 (by omega)]
  have hf : fkc a op = .nilFunc := by simp [fkc, h1, h2, h3, h4, h5]
  clear HV HAd HTH h1 h2 h3 h4 h5
  generalize bs s = S at *
  have HF := Lib.hid hf
  clear hf
  go_enter Try.func46, Try.ntmps46
  go_wp2_with fail
  with_reducible refine (ckcondOf_any a op _).mono ?_
  rintro e w2 ⟨rfl, rfl⟩
  rw [HF.out]
  have hrun : ∀ W, Sem.run Try.prog (binOp BinOp.eql 101 .nilFunc .nilFunc) W = .ok (.bool true) W := fun W => by kernel_rfl
  go_wp2_with fail
  go_ret
  exact ⟨rfl, HB.out⟩

end Go.Proofs.Ytlgnagmmljdkiab.Lx
/-
  What deeper, each, within of package check tell of expressions, as contracts.
-/

namespace Go.Proofs.Ytlgnagmmljdkiab.Lx
open Go.RowKit
open P (wth EX CO ST PG setsB regsL nodeE nodeC eachX eachXs eachC eachCs withinX withinC dpX dpXs dpC dpCs andE regE locE)
set_option maxRecDepth 100000
set_option linter.unusedVariables false
set_option linter.unusedSimpArgs false

set_option maxHeartbeats 800000 in
theorem kidsX_any (w : World) (v : Value) (op n : Int) (s : List UInt8) (ks : List EX) (ka : Option Addr) (kc : Nat) (hv : v = .agg #[.int .i64 op, .int .i64 n, .string (bs s), .slice ka ks.length kc]) :
    Calls Try.prog 79 #[v] w (fun e w' => e = .returned (.slice ka ks.length kc) ∧ Below w.heap.size w w') := by
  subst hv
  have HB := Lib.hid (one_belowN w (.cells #[.int .i64 op, .int .i64 n, .string (bs s), .slice ka ks.length kc] 47))
  generalize bs s = S at *
  go_enter Try.func79, Try.ntmps79
  go_wp2_with fail
  go_ret
  exact ⟨rfl, HB.out⟩
theorem dpXs_lt {m : Nat} : ∀ {ks : List EX}, m < dpXs ks ↔ ∃ e ∈ ks, m < dpX e
  | [] => by
    rw [P.dpXs]
    simp
  | e :: es => by
    have ih := dpXs_lt (m := m) (ks := es)
    rw [P.dpXs]
    constructor
    · intro h
      rcases Nat.lt_or_ge m (dpX e) with h1 | h1
      · exact ⟨e, .head _, h1⟩
      · obtain ⟨y, hy, h2⟩ := ih.1 (by omega)
        exact ⟨y, .tail _ hy, h2⟩
    · rintro ⟨y, hy, h2⟩
      rcases List.mem_cons.1 hy with rfl | hy
      · omega
      · have := ih.2 ⟨y, hy, h2⟩
        omega
theorem dpX_mk {m : Nat} {op n : Int} {s : List UInt8} {ks : List EX} : m + 1 < dpX (.mk op n s ks) ↔ ∃ e ∈ ks, m < dpX e := by
  rw [P.dpX, ← dpXs_lt]
  omega
def BlTo (b : Bool) (w : World) (e : Ending) (w' : World) : Prop := e = .returned (.bool b) ∧ Below w.heap.size w w'
set_option maxHeartbeats 12800000 in
theorem deeperX_any : ∀ (m : Nat) (e : EX), m ≤ 1000 → ∀ (z : Int) (v : Value) (w : World), z = (m : Nat) → LX (fun _ => True) w v e → Calls Try.prog 96 #[v, .func (.func 79) #[] #[], .int .i64 z] w (BlTo (decide (m < dpX e)) w)
  | 0, .mk op n s ks, _, z, v, w, hz, hv => by
    subst hz
    unfold LX at hv
    obtain ⟨ka, kc, rfl, _, _⟩ := hv
    have HB := Lib.hid (one_belowN w (.cells #[.int .i64 op, .int .i64 n, .string (bs s), .slice ka ks.length kc] 47))
    rw [decide_eq_true (show 0 < dpX (.mk op n s ks) by rw [P.dpX]; omega)]
    generalize bs s = S at *
    show Calls Try.prog 96 #[.agg #[.int .i64 op, .int .i64 n, .string S, .slice ka ks.length kc], .func (.func 79) #[] #[], .int .i64 0] w _
    go_enter Try.func96, Try.ntmps96
    go_wp2_with fail
    go_ret
    exact ⟨rfl, HB.out⟩
  | m + 1, .mk op n s ks, hm, z, v, w, hz, hv => by
    have IH := Lib.hid (deeperX_any m)
    have hv0 := hv
    unfold LX at hv0
    obtain ⟨ka, kc, rfl, hmx, hc⟩ := hv0
    unfold maxLen at hmx
    have HB := Lib.hid (one_belowN w (.cells #[.int .i64 op, .int .i64 n, .string (bs s), .slice ka ks.length kc] 47))
    have HC := Lib.hid hc
    have HV := Lib.hid hv
    have HQ := Lib.hid (Blk.new w 47 #[.int .i64 op, .int .i64 n, .string (bs s), .slice ka ks.length kc])
    have HKD := Lib.hid (fun W => kidsX_any W _ op n s ks ka kc rfl)
    have z1 : (z == 0) = false := by simp; omega
    have z2 : z - 1 = (m : Int) := by omega
    have wr1 : IntKind.i64.wrap (m : Int) = (m : Int) := IntWalk.i64_in _ (by omega)
    have hz0 : 0 ≤ z := by omega
    have hz9 : z ≤ 2000 := by omega
    clear hc hv hz
    generalize hD : decide (m + 1 < dpX (.mk op n s ks)) = D at *
    have HD := Lib.hid (show ∀ b, (b = true ↔ ∃ e ∈ ks, m < dpX e) → D = b from fun b hb => by
      rw [← hD]
      cases b
      · exact decide_eq_false (fun hh => by have := hb.2 (dpX_mk.1 hh); cases this)
      · exact decide_eq_true (dpX_mk.2 (hb.1 rfl)))
    clear hD
    generalize bs s = S at *
    go_enter Try.func96, Try.ntmps96
    go_wp2_with fail
    generalize hW : w.alloc (.cells #[.int .i64 op, .int .i64 n, .string S, .slice ka ks.length kc] 47) = W at *
    have hwl : w.heap.size < W.heap.size := HQ.out.lt
    clear hW
    with_reducible refine (HKD.out W).mono ?_
    rintro e W1 ⟨rfl, hb1⟩
    have HB1 := Lib.hid (HB.out.trans (hb1.mono HB.out.size))
    clear hb1 HKD
    go_wp2_with fail
    go_loopw [15] (fun i wr => ∃ j : Nat, i = .int .i64 (j : Nat) ∧ j ≤ ks.length ∧ (∀ i e, i < j → ks[i]? = some e → ¬ m < dpX e) ∧ Below W1.heap.size W1 wr) (fun i _ => ks.length - (intOf i).toNat)
    case atStart => exact ⟨0, rfl, Nat.zero_le _, fun i e hi => by omega, Below.refl _ _⟩
    case round =>
      obtain ⟨j, rfl, hj, hno, hbr⟩ := hrel
      have HNO := Lib.hid hno
      have HBR := Lib.hid hbr
      clear hno hbr
      by_cases hlt : j < ks.length
      · obtain ⟨g, off, rfl, _, hs⟩ : ∃ g off, ka = some ⟨g, off, none⟩ ∧ True ∧ LXs (fun _ => True) w g off ks := by
          rcases HC.out with h0 | h0
          · rw [h0] at hlt
            simp at hlt
          · exact h0
        obtain ⟨y, a0, a1, a2, a3, hy, k0, k1, k2, k3, hlx⟩ := LXs.at ks hs j hlt
        obtain ⟨yo, ym, ys, ya, yn, yc, hye⟩ := LX.any hlx
        injection hye with hye
        injection hye with hye
        injection hye with g0 hye
        injection hye with g1 hye
        injection hye with g2 hye
        injection hye with g3 hye
        subst g0 g1 g2 g3
        clear hye
        have hbw := HB1.out.trans (HBR.out.mono HB1.out.size)
        have hq : ∀ (o : Nat) (u : Value), w.cell? ⟨g, o, none⟩ = some u → wr.cell? ⟨g, o, none⟩ = some u := fun o u hu => (hbw.cell (p := ⟨g, o, none⟩) (World.block_lt_of_cell? w _ hu)).trans hu
        have c0 := hq _ _ k0
        have c1 := hq _ _ k1
        have c2 := hq _ _ k2
        have c3 := hq _ _ k3
        have hby := one_belowN wr (.cells #[.int .i64 yo, .int .i64 ym, .string ys, .slice ya yn yc] 47)
        have HY := Lib.hid (IH.out y (by omega) (m : Int) _ _ rfl (LX.keep (Keeps.below hby (Nat.le_refl _)) y (LX.keep (Keeps.below hbw (Nat.le_refl _)) y hlx)))
        have HBY := Lib.hid hby
        have HYE := Lib.hid hy
        have d1 : (0 : Int) ≤ (j : Int) := by omega
        have d2 : (j : Int) < (ks.length : Int) := by omega
        have d3 : decide ((j : Int) < (ks.length : Int)) = true := decide_eq_true (by omega)
        have d4 : decide (j < ks.length) = true := decide_eq_true hlt
        clear hs k0 k1 k2 k3 hlx hbw hq hby hy
        by_cases hdp : m < dpX y
        · rw [decide_eq_true hdp] at HY
          have HDP := Lib.hid hdp
          clear hdp
          go_wp2_with fail
          with_reducible refine HY.out.mono ?_
          rintro e w2 ⟨rfl, hb2⟩
          go_wp2_with fail
          go_ret
          exact ⟨congrArg (fun b => Ending.returned (.bool b)) (HD.out true ⟨fun _ => ⟨y, List.mem_of_getElem? HYE.out, HDP.out⟩, fun _ => rfl⟩).symm, HB1.out.trans ((HBR.out.trans ((HBY.out.trans (hb2.mono HBY.out.size)).mono HBR.out.size)).mono HB1.out.size)⟩
        · rw [decide_eq_false hdp] at HY
          have HDP := Lib.hid hdp
          clear hdp
          go_wp2_with fail
          with_reducible refine HY.out.mono ?_
          rintro e w2 ⟨rfl, hb2⟩
          go_wp2_with fail
          go_roundw
          case rel =>
            refine ⟨j + 1, by go_num, by omega, fun i e hi he => ?_, HBR.out.trans ((HBY.out.trans (hb2.mono HBY.out.size)).mono HBR.out.size)⟩
            by_cases hij : i = j
            · subst hij
              rw [HYE.out] at he
              cases he
              exact HDP.out
            · exact HNO.out i e (by omega) he
          case measure => simp [intOf]; omega
      · obtain rfl : j = ks.length := by omega
        have HDF := Lib.hid (HD.out false ⟨(fun hh => by cases hh), (fun ⟨e, he, hd⟩ => by
          obtain ⟨i, hi⟩ := List.getElem?_of_mem he
          have hil : i < ks.length := by
            rcases Nat.lt_or_ge i ks.length with h | h
            · exact h
            · rw [List.getElem?_eq_none h] at hi
              cases hi
          exact absurd hd (HNO.out i e hil hi))⟩)
        clear hlt
        go_wp2_with fail
        go_ret
        exact ⟨congrArg (fun b => Ending.returned (.bool b)) HDF.out.symm, HB1.out.trans (HBR.out.mono HB1.out.size)⟩

theorem eachXs_take {f : EX → Nat} : ∀ {ks : List EX} {j : Nat} {e : EX}, ks[j]? = some e → eachXs f (ks.take j) = 0 → (eachX f e = 0 → eachXs f (ks.take (j + 1)) = 0) ∧ (eachX f e ≠ 0 → eachXs f ks = eachX f e)
  | [], j, e, h, _ => by simp at h
  | y :: ks, 0, e, h, _ => by
    simp at h
    subst h
    constructor
    · intro h0
      rw [List.take_succ_cons, List.take_zero, P.eachXs, P.eachXs, h0]
      rfl
    · intro h0
      rw [P.eachXs]
      unfold P.andE
      rw [if_neg h0]
  | y :: ks, j + 1, e, h, h0 => by
    rw [List.take_succ_cons, P.eachXs] at h0
    have hy : eachX f y = 0 := by
      unfold P.andE at h0
      split at h0
      · assumption
      · exact absurd h0 (by assumption)
    have h1 : eachXs f (ks.take j) = 0 := by
      unfold P.andE at h0
      rw [if_pos hy] at h0
      exact h0
    have ih := eachXs_take (f := f) (ks := ks) (j := j) (e := e) (by simpa using h) h1
    constructor
    · intro he
      rw [List.take_succ_cons, P.eachXs, hy]
      exact ih.1 he
    · intro he
      rw [P.eachXs, hy]
      exact ih.2 he
theorem eachX_mk {f : EX → Nat} {op n : Int} {s : List UInt8} {ks : List EX} : eachX f (.mk op n s ks) = andE (f (.mk op n s ks)) (eachXs f ks) := by rw [P.eachX]
/-- How the nodes are asked, from a world on. -/
def AskX (a : Nat) (f : EX → Nat) (w : World) : Prop := ∀ (e : EX) (v : Value) (w' : World), Below w.heap.size w w' → LX (fun _ => True) w' v e → wfX e → Calls Try.prog 80 #[.pointer (some ⟨a, 0, none⟩), v] w' (ErTo (f e) w')
theorem AskX.below {a : Nat} {f : EX → Nat} {w w' : World} (h : AskX a f w) (hb : Below w.heap.size w w') : AskX a f w' := fun e v w2 hb2 => h e v w2 (hb.trans (hb2.mono hb.size))
set_option maxHeartbeats 12800000 in
theorem eachX_any (a : Nat) (f : EX → Nat) (hf : ∀ e, f e ≤ 100) : ∀ (N : Nat) (e : EX), dpX e ≤ N → ∀ (v : Value) (w : World), AskX a f w → LX (fun _ => True) w v e → wfX e → Calls Try.prog 97 #[v, .func (.func 79) #[] #[], .func (.func 80) #[.pointer (some ⟨a, 0, none⟩)] #[]] w (ErTo (eachX f e) w)
  | 0, .mk op n s ks, hN, v, w, _, hv, _ => by
    rw [P.dpX] at hN
    omega
  | N + 1, .mk op n s ks, hN, v, w, hask, hv, hw => by
    have IH := Lib.hid (eachX_any a f hf N)
    have HDN := Lib.hid (show ∀ e ∈ ks, dpX e ≤ N from fun e he => by
      have := P.dpXs_mem he
      rw [P.dpX] at hN
      omega)
    have hv0 := hv
    unfold LX at hv0
    obtain ⟨ka, kc, rfl, hmx, hc⟩ := hv0
    unfold maxLen at hmx
    have HWK := Lib.hid (show ∀ e ∈ ks, wfX e from fun e he => wfXs_mem (by unfold wfX at hw; exact hw.2.2.2) e he)
    have hb0 := one_belowN w (.cells #[.int .i64 op, .int .i64 n, .string (bs s), .slice ka ks.length kc] 47)
    have HB := Lib.hid hb0
    have HC := Lib.hid hc
    have HQ := Lib.hid (Blk.new w 47 #[.int .i64 op, .int .i64 n, .string (bs s), .slice ka ks.length kc])
    have HKD := Lib.hid (fun W => kidsX_any W _ op n s ks ka kc rfl)
    have HAK := Lib.hid hask
    have HA := Lib.hid (hask _ _ _ hb0 (LX.keep (Keeps.below hb0 (Nat.le_refl _)) _ hv) hw)
    have hfm := hf (.mk op n s ks)
    rw [eachX_mk]
    clear hc hv hw hN hb0 hask
    generalize f (.mk op n s ks) = F0 at *
    generalize bs s = S at *
    by_cases hF0 : F0 = 0
    · subst hF0
      have e1 : P.andE 0 (eachXs f ks) = eachXs f ks := rfl
      rw [e1]
      clear e1
      generalize hR : eachXs f ks = R at *
      have HR := Lib.hid hR
      clear hR
      go_enter Try.func97, Try.ntmps97
      go_wp2_with fail
      generalize hW : w.alloc (.cells #[.int .i64 op, .int .i64 n, .string S, .slice ka ks.length kc] 47) = W at *
      have hwl : w.heap.size < W.heap.size := HQ.out.lt
      clear hW
      have hA := HA.out
      rw [show ErTo 0 W = (fun e w' => e = .returned (.int .i64 0) ∧ Below W.heap.size W w') from rfl] at hA
      with_reducible refine hA.mono ?_
      rintro e W0 ⟨rfl, hb0⟩
      have HB0 := Lib.hid (HB.out.trans (hb0.mono HB.out.size))
      obtain ⟨q0, q1, q2, q3, _, _, _, _⟩ := four_free (HQ.out.live' hb0)
      clear hb0 hA HA
      go_wp2_with fail
      with_reducible refine (HKD.out W0).mono ?_
      rintro e W1 ⟨rfl, hb1⟩
      have HB1 := Lib.hid (HB0.out.trans (hb1.mono HB0.out.size))
      clear hb1 HKD q0 q1 q2 q3 HB0
      go_wp2_with fail
      go_loopw [21] (fun i wr => ∃ j : Nat, i = .int .i64 (j : Nat) ∧ j ≤ ks.length ∧ eachXs f (ks.take j) = 0 ∧ Below W1.heap.size W1 wr) (fun i _ => ks.length - (intOf i).toNat)
      case atStart => exact ⟨0, rfl, Nat.zero_le _, by rw [List.take_zero, P.eachXs], Below.refl _ _⟩
      case round =>
        obtain ⟨j, rfl, hj, hno, hbr⟩ := hrel
        have HNO := Lib.hid hno
        have HBR := Lib.hid hbr
        clear hno hbr
        by_cases hlt : j < ks.length
        · obtain ⟨g, off, rfl, _, hs⟩ : ∃ g off, ka = some ⟨g, off, none⟩ ∧ True ∧ LXs (fun _ => True) w g off ks := by
            rcases HC.out with h0 | h0
            · rw [h0] at hlt
              simp at hlt
            · exact h0
          obtain ⟨y, a0, a1, a2, a3, hy, k0, k1, k2, k3, hlx⟩ := LXs.at ks hs j hlt
          obtain ⟨yo, ym, ys, ya, yn, yc, hye⟩ := LX.any hlx
          injection hye with hye
          injection hye with hye
          injection hye with g0 hye
          injection hye with g1 hye
          injection hye with g2 hye
          injection hye with g3 hye
          subst g0 g1 g2 g3
          clear hye
          have hbw := HB1.out.trans (HBR.out.mono HB1.out.size)
          have hq : ∀ (o : Nat) (u : Value), w.cell? ⟨g, o, none⟩ = some u → wr.cell? ⟨g, o, none⟩ = some u := fun o u hu => (hbw.cell (p := ⟨g, o, none⟩) (World.block_lt_of_cell? w _ hu)).trans hu
          have c0 := hq _ _ k0
          have c1 := hq _ _ k1
          have c2 := hq _ _ k2
          have c3 := hq _ _ k3
          have hby := one_belowN wr (.cells #[.int .i64 yo, .int .i64 ym, .string ys, .slice ya yn yc] 47)
          have HY := Lib.hid (IH.out y (HDN.out y (List.mem_of_getElem? hy)) _ _ ((HAK.out.below hbw).below hby) (LX.keep (Keeps.below hby (Nat.le_refl _)) y (LX.keep (Keeps.below hbw (Nat.le_refl _)) y hlx)) (HWK.out y (List.mem_of_getElem? hy)))
          have HBY := Lib.hid hby
          have HTK := Lib.hid (eachXs_take (f := f) hy HNO.out)
          have d1 : (0 : Int) ≤ (j : Int) := by omega
          have d2 : (j : Int) < (ks.length : Int) := by omega
          have d3 : decide ((j : Int) < (ks.length : Int)) = true := decide_eq_true (by omega)
          have d4 : decide (j < ks.length) = true := decide_eq_true hlt
          clear hs k0 k1 k2 k3 hlx hbw hq hby hy
          generalize eachX f y = FY at *
          by_cases hdp : FY = 0
          · subst hdp
            have hY := HY.out
            rw [show ErTo 0 (wr.alloc (.cells #[.int .i64 yo, .int .i64 ym, .string ys, .slice ya yn yc] 47)) = (fun e w' => e = .returned (.int .i64 0) ∧ Below (wr.alloc (.cells #[.int .i64 yo, .int .i64 ym, .string ys, .slice ya yn yc] 47)).heap.size (wr.alloc (.cells #[.int .i64 yo, .int .i64 ym, .string ys, .slice ya yn yc] 47)) w') from rfl] at hY
            have HY2 := Lib.hid hY
            clear hY
            go_wp2_with fail
            with_reducible refine HY2.out.mono ?_
            rintro e w2 ⟨rfl, hb2⟩
            go_wp2_with fail
            go_roundw
            case rel => exact ⟨j + 1, by go_num, by omega, HTK.out.1 (by first | trivial | rfl), HBR.out.trans ((HBY.out.trans (hb2.mono HBY.out.size)).mono HBR.out.size)⟩
            case measure => simp [intOf]; omega
          · have f1 : ((FY : Int) != 0) = true := by simp; omega
            have f2 : ((FY : Int) == 0) = false := by simp; omega
            have f3 : (FY == 0) = false := by simpa using hdp
            have HDP := Lib.hid hdp
            clear hdp
            go_wp2_with fail
            with_reducible refine HY.out.mono ?_
            rintro e w2 ⟨rfl, hb2⟩
            go_wp2_with fail
            go_ret
            exact ⟨congrArg (fun n : Nat => Ending.returned (.int .i64 (n : Nat))) ((HTK.out.2 HDP.out).symm.trans HR.out), HB1.out.trans ((HBR.out.trans ((HBY.out.trans (hb2.mono HBY.out.size)).mono HBR.out.size)).mono HB1.out.size)⟩
        · obtain rfl : j = ks.length := by omega
          have HRZ := Lib.hid (show R = 0 by rw [← HR.out, ← HNO.out, List.take_length])
          clear hlt
          go_wp2_with fail
          go_ret
          exact ⟨by rw [HRZ.out]; rfl, HB1.out.trans (HBR.out.mono HB1.out.size)⟩
    · have e1 : P.andE F0 (eachXs f ks) = F0 := by unfold P.andE; rw [if_neg hF0]
      rw [e1]
      have f1 : ((F0 : Int) != 0) = true := by simp; omega
      have f2 : ((F0 : Int) == 0) = false := by simp; omega
      have f3 : (F0 == 0) = false := by simpa using hF0
      clear e1 hF0
      go_enter Try.func97, Try.ntmps97
      go_wp2_with fail
      with_reducible refine HA.out.mono ?_
      rintro e W0 ⟨rfl, hb0⟩
      go_wp2_with fail
      go_ret
      exact ⟨rfl, HB.out.trans (hb0.mono HB.out.size)⟩
set_option maxHeartbeats 3200000 in
theorem withinX_any (a : Nat) (f : EX → Nat) (hf : ∀ e, f e ≤ 100) (e : EX) (v : Value) (w : World) (hask : AskX a f w) (hv : LX (fun _ => True) w v e) (hw : wfX e) :
    Calls Try.prog 78 #[v, .func (.func 79) #[] #[], .func (.func 80) #[.pointer (some ⟨a, 0, none⟩)] #[]] w (ErTo (withinX f e) w) := by
  obtain ⟨op, n, s, ks⟩ := e
  have hv0 := hv
  unfold LX at hv0
  obtain ⟨ka, kc, rfl, _, _⟩ := hv0
  have hb0 := one_belowN w (.cells #[.int .i64 op, .int .i64 n, .string (bs s), .slice ka ks.length kc] 47)
  have HB := Lib.hid hb0
  have HV := Lib.hid (fun w' (hb : Below w.heap.size w w') => LX.keep (Keeps.below hb (Nat.le_refl _)) _ hv)
  have HQ := Lib.hid (Blk.new w 47 #[.int .i64 op, .int .i64 n, .string (bs s), .slice ka ks.length kc])
  have HD := Lib.hid (deeperX_any 6 (.mk op n s ks) (by omega) 6 _ _ rfl (HV.out _ hb0))
  unfold P.withinX
  by_cases h6 : 6 < dpX (.mk op n s ks)
  · rw [if_pos h6]
    rw [decide_eq_true h6] at HD
    clear h6 hv hb0 hw hask HV
    generalize bs s = S at *
    go_enter Try.func78, Try.ntmps78
    go_wp2_with fail
    with_reducible refine HD.out.mono ?_
    rintro e w2 ⟨rfl, hb2⟩
    go_wp2_with fail
    go_ret
    exact ⟨rfl, HB.out.trans (hb2.mono HB.out.size)⟩
  · rw [if_neg h6]
    rw [decide_eq_false h6] at HD
    have HE := Lib.hid (fun w' (hb : Below w.heap.size w w') => eachX_any a f hf 6 (.mk op n s ks) (by omega) _ w' (hask.below hb) (HV.out w' hb) hw)
    clear h6 hv hb0 hw hask HV
    generalize eachX f (.mk op n s ks) = R at *
    generalize bs s = S at *
    go_enter Try.func78, Try.ntmps78
    go_wp2_with fail
    with_reducible refine HD.out.mono ?_
    rintro e w2 ⟨rfl, hb2⟩
    have HB2 := Lib.hid (HB.out.trans (hb2.mono HB.out.size))
    obtain ⟨q0, q1, q2, q3, _, _, _, _⟩ := four_free (HQ.out.live' hb2)
    have HE2 := Lib.hid (HE.out w2 HB2.out)
    clear hb2
    go_wp2_with fail
    with_reducible refine HE2.out.mono ?_
    rintro e w3 ⟨rfl, hb3⟩
    go_wp2_with fail
    go_ret
    exact ⟨rfl, HB2.out.trans (hb3.mono HB2.out.size)⟩
end Go.Proofs.Ytlgnagmmljdkiab.Lx
/-
  What deeper, each, within of package check tell of conditions, as contracts.
-/

namespace Go.Proofs.Ytlgnagmmljdkiab.Lx
open Go.RowKit
open P (wth EX CO ST PG setsB regsL nodeE nodeC eachX eachXs eachC eachCs withinX withinC dpX dpXs dpC dpCs andE regE locE)
set_option maxRecDepth 100000
set_option linter.unusedVariables false
set_option linter.unusedSimpArgs false

set_option maxHeartbeats 800000 in
theorem kidsC_any (w : World) (v : Value) (op t : Int) (s : List UInt8) (n : Int) (ks : List CO) (ka : Option Addr) (kc : Nat) (hv : v = .agg #[.int .i64 op, .int .i64 t, .string (bs s), .int .i64 n, .slice ka ks.length kc]) :
    Calls Try.prog 45 #[v] w (fun e w' => e = .returned (.slice ka ks.length kc) ∧ Below w.heap.size w w') := by
  subst hv
  have HB := Lib.hid (one_belowN w (.cells #[.int .i64 op, .int .i64 t, .string (bs s), .int .i64 n, .slice ka ks.length kc] 28))
  generalize bs s = S at *
  go_enter Try.func45, Try.ntmps45
  go_wp2_with fail
  go_ret
  exact ⟨rfl, HB.out⟩
theorem dpCs_lt {m : Nat} : ∀ {ks : List CO}, m < dpCs ks ↔ ∃ e ∈ ks, m < dpC e
  | [] => by
    rw [P.dpCs]
    simp
  | e :: es => by
    have ih := dpCs_lt (m := m) (ks := es)
    rw [P.dpCs]
    constructor
    · intro h
      rcases Nat.lt_or_ge m (dpC e) with h1 | h1
      · exact ⟨e, .head _, h1⟩
      · obtain ⟨y, hy, h2⟩ := ih.1 (by omega)
        exact ⟨y, .tail _ hy, h2⟩
    · rintro ⟨y, hy, h2⟩
      rcases List.mem_cons.1 hy with rfl | hy
      · omega
      · have := ih.2 ⟨y, hy, h2⟩
        omega
theorem dpC_mk {m : Nat} {op t : Int} {s : List UInt8} {n : Int} {ks : List CO} : m + 1 < dpC (.mk op t s n ks) ↔ ∃ e ∈ ks, m < dpC e := by
  rw [P.dpC, ← dpCs_lt]
  omega
def BlToC (b : Bool) (w : World) (e : Ending) (w' : World) : Prop := e = .returned (.bool b) ∧ Below w.heap.size w w'
set_option maxHeartbeats 12800000 in
theorem deeperC_any : ∀ (m : Nat) (e : CO), m ≤ 1000 → ∀ (z : Int) (v : Value) (w : World), z = (m : Nat) → LC (fun _ => True) w v e → Calls Try.prog 60 #[v, .func (.func 45) #[] #[], .int .i64 z] w (BlToC (decide (m < dpC e)) w)
  | 0, .mk op t s n ks, _, z, v, w, hz, hv => by
    subst hz
    unfold LC at hv
    obtain ⟨ka, kc, rfl, _, _⟩ := hv
    have HB := Lib.hid (one_belowN w (.cells #[.int .i64 op, .int .i64 t, .string (bs s), .int .i64 n, .slice ka ks.length kc] 28))
    rw [decide_eq_true (show 0 < dpC (.mk op t s n ks) by rw [P.dpC]; omega)]
    generalize bs s = S at *
    show Calls Try.prog 60 #[.agg #[.int .i64 op, .int .i64 t, .string S, .int .i64 n, .slice ka ks.length kc], .func (.func 45) #[] #[], .int .i64 0] w _
    go_enter Try.func60, Try.ntmps60
    go_wp2_with fail
    go_ret
    exact ⟨rfl, HB.out⟩
  | m + 1, .mk op t s n ks, hm, z, v, w, hz, hv => by
    have IH := Lib.hid (deeperC_any m)
    have hv0 := hv
    unfold LC at hv0
    obtain ⟨ka, kc, rfl, hmx, hc⟩ := hv0
    unfold maxLen at hmx
    have HB := Lib.hid (one_belowN w (.cells #[.int .i64 op, .int .i64 t, .string (bs s), .int .i64 n, .slice ka ks.length kc] 28))
    have HC := Lib.hid hc
    have HV := Lib.hid hv
    have HQ := Lib.hid (Blk.new w 28 #[.int .i64 op, .int .i64 t, .string (bs s), .int .i64 n, .slice ka ks.length kc])
    have HKD := Lib.hid (fun W => kidsC_any W _ op t s n ks ka kc rfl)
    have z1 : (z == 0) = false := by simp; omega
    have z2 : z - 1 = (m : Int) := by omega
    have wr1 : IntKind.i64.wrap (m : Int) = (m : Int) := IntWalk.i64_in _ (by omega)
    have hz0 : 0 ≤ z := by omega
    have hz9 : z ≤ 2000 := by omega
    clear hc hv hz
    generalize hD : decide (m + 1 < dpC (.mk op t s n ks)) = D at *
    have HD := Lib.hid (show ∀ b, (b = true ↔ ∃ e ∈ ks, m < dpC e) → D = b from fun b hb => by
      rw [← hD]
      cases b
      · exact decide_eq_false (fun hh => by have := hb.2 (dpC_mk.1 hh); cases this)
      · exact decide_eq_true (dpC_mk.2 (hb.1 rfl)))
    clear hD
    generalize bs s = S at *
    go_enter Try.func60, Try.ntmps60
    go_wp2_with fail
    generalize hW : w.alloc (.cells #[.int .i64 op, .int .i64 t, .string S, .int .i64 n, .slice ka ks.length kc] 28) = W at *
    have hwl : w.heap.size < W.heap.size := HQ.out.lt
    clear hW
    with_reducible refine (HKD.out W).mono ?_
    rintro e W1 ⟨rfl, hb1⟩
    have HB1 := Lib.hid (HB.out.trans (hb1.mono HB.out.size))
    clear hb1 HKD
    go_wp2_with fail
    go_loopw [15] (fun i wr => ∃ j : Nat, i = .int .i64 (j : Nat) ∧ j ≤ ks.length ∧ (∀ i e, i < j → ks[i]? = some e → ¬ m < dpC e) ∧ Below W1.heap.size W1 wr) (fun i _ => ks.length - (intOf i).toNat)
    case atStart => exact ⟨0, rfl, Nat.zero_le _, fun i e hi => by omega, Below.refl _ _⟩
    case round =>
      obtain ⟨j, rfl, hj, hno, hbr⟩ := hrel
      have HNO := Lib.hid hno
      have HBR := Lib.hid hbr
      clear hno hbr
      by_cases hlt : j < ks.length
      · obtain ⟨g, off, rfl, _, hs⟩ : ∃ g off, ka = some ⟨g, off, none⟩ ∧ True ∧ LCs (fun _ => True) w g off ks := by
          rcases HC.out with h0 | h0
          · rw [h0] at hlt
            simp at hlt
          · exact h0
        obtain ⟨y, a0, a1, a2, a3, a4, hy, k0, k1, k2, k3, k4, hlx⟩ := LCs.at ks hs j hlt
        obtain ⟨yo, ym, ys, yu, ya, yn, yc, hye⟩ := LC.any hlx
        injection hye with hye
        injection hye with hye
        injection hye with g0 hye
        injection hye with g1 hye
        injection hye with g2 hye
        injection hye with g3 hye
        injection hye with g4 hye
        subst g0 g1 g2 g3 g4
        clear hye
        have hbw := HB1.out.trans (HBR.out.mono HB1.out.size)
        have hq : ∀ (o : Nat) (u : Value), w.cell? ⟨g, o, none⟩ = some u → wr.cell? ⟨g, o, none⟩ = some u := fun o u hu => (hbw.cell (p := ⟨g, o, none⟩) (World.block_lt_of_cell? w _ hu)).trans hu
        have c0 := hq _ _ k0
        have c1 := hq _ _ k1
        have c2 := hq _ _ k2
        have c3 := hq _ _ k3
        have c4 := hq _ _ k4
        have hby := one_belowN wr (.cells #[.int .i64 yo, .int .i64 ym, .string ys, .int .i64 yu, .slice ya yn yc] 28)
        have HY := Lib.hid (IH.out y (by omega) (m : Int) _ _ rfl (LC.keep (Keeps.below hby (Nat.le_refl _)) y (LC.keep (Keeps.below hbw (Nat.le_refl _)) y hlx)))
        have HBY := Lib.hid hby
        have HYE := Lib.hid hy
        have d1 : (0 : Int) ≤ (j : Int) := by omega
        have d2 : (j : Int) < (ks.length : Int) := by omega
        have d3 : decide ((j : Int) < (ks.length : Int)) = true := decide_eq_true (by omega)
        have d4 : decide (j < ks.length) = true := decide_eq_true hlt
        clear hs k0 k1 k2 k3 k4 hlx hbw hq hby hy
        by_cases hdp : m < dpC y
        · rw [decide_eq_true hdp] at HY
          have HDP := Lib.hid hdp
          clear hdp
          go_wp2_with fail
          with_reducible refine HY.out.mono ?_
          rintro e w2 ⟨rfl, hb2⟩
          go_wp2_with fail
          go_ret
          exact ⟨congrArg (fun b => Ending.returned (.bool b)) (HD.out true ⟨fun _ => ⟨y, List.mem_of_getElem? HYE.out, HDP.out⟩, fun _ => rfl⟩).symm, HB1.out.trans ((HBR.out.trans ((HBY.out.trans (hb2.mono HBY.out.size)).mono HBR.out.size)).mono HB1.out.size)⟩
        · rw [decide_eq_false hdp] at HY
          have HDP := Lib.hid hdp
          clear hdp
          go_wp2_with fail
          with_reducible refine HY.out.mono ?_
          rintro e w2 ⟨rfl, hb2⟩
          go_wp2_with fail
          go_roundw
          case rel =>
            refine ⟨j + 1, by go_num, by omega, fun i e hi he => ?_, HBR.out.trans ((HBY.out.trans (hb2.mono HBY.out.size)).mono HBR.out.size)⟩
            by_cases hij : i = j
            · subst hij
              rw [HYE.out] at he
              cases he
              exact HDP.out
            · exact HNO.out i e (by omega) he
          case measure => simp [intOf]; omega
      · obtain rfl : j = ks.length := by omega
        have HDF := Lib.hid (HD.out false ⟨(fun hh => by cases hh), (fun ⟨e, he, hd⟩ => by
          obtain ⟨i, hi⟩ := List.getElem?_of_mem he
          have hil : i < ks.length := by
            rcases Nat.lt_or_ge i ks.length with h | h
            · exact h
            · rw [List.getElem?_eq_none h] at hi
              cases hi
          exact absurd hd (HNO.out i e hil hi))⟩)
        clear hlt
        go_wp2_with fail
        go_ret
        exact ⟨congrArg (fun b => Ending.returned (.bool b)) HDF.out.symm, HB1.out.trans (HBR.out.mono HB1.out.size)⟩

theorem eachCs_take {f : CO → Nat} : ∀ {ks : List CO} {j : Nat} {e : CO}, ks[j]? = some e → eachCs f (ks.take j) = 0 → (eachC f e = 0 → eachCs f (ks.take (j + 1)) = 0) ∧ (eachC f e ≠ 0 → eachCs f ks = eachC f e)
  | [], j, e, h, _ => by simp at h
  | y :: ks, 0, e, h, _ => by
    simp at h
    subst h
    constructor
    · intro h0
      rw [List.take_succ_cons, List.take_zero, P.eachCs, P.eachCs, h0]
      rfl
    · intro h0
      rw [P.eachCs]
      unfold P.andE
      rw [if_neg h0]
  | y :: ks, j + 1, e, h, h0 => by
    rw [List.take_succ_cons, P.eachCs] at h0
    have hy : eachC f y = 0 := by
      unfold P.andE at h0
      split at h0
      · assumption
      · exact absurd h0 (by assumption)
    have h1 : eachCs f (ks.take j) = 0 := by
      unfold P.andE at h0
      rw [if_pos hy] at h0
      exact h0
    have ih := eachCs_take (f := f) (ks := ks) (j := j) (e := e) (by simpa using h) h1
    constructor
    · intro he
      rw [List.take_succ_cons, P.eachCs, hy]
      exact ih.1 he
    · intro he
      rw [P.eachCs, hy]
      exact ih.2 he
theorem eachC_mk {f : CO → Nat} {op t : Int} {s : List UInt8} {n : Int} {ks : List CO} : eachC f (.mk op t s n ks) = andE (f (.mk op t s n ks)) (eachCs f ks) := by rw [P.eachC]
/-- How the nodes are asked, from a world on. -/
def AskC (a : Nat) (f : CO → Nat) (w : World) : Prop := ∀ (e : CO) (v : Value) (w' : World), Below w.heap.size w w' → LC (fun _ => True) w' v e → wfC e → Calls Try.prog 46 #[.pointer (some ⟨a, 0, none⟩), v] w' (ErTo (f e) w')
theorem AskC.below {a : Nat} {f : CO → Nat} {w w' : World} (h : AskC a f w) (hb : Below w.heap.size w w') : AskC a f w' := fun e v w2 hb2 => h e v w2 (hb.trans (hb2.mono hb.size))
set_option maxHeartbeats 12800000 in
theorem eachC_any (a : Nat) (f : CO → Nat) (hf : ∀ e, f e ≤ 100) : ∀ (N : Nat) (e : CO), dpC e ≤ N → ∀ (v : Value) (w : World), AskC a f w → LC (fun _ => True) w v e → wfC e → Calls Try.prog 61 #[v, .func (.func 45) #[] #[], .func (.func 46) #[.pointer (some ⟨a, 0, none⟩)] #[]] w (ErTo (eachC f e) w)
  | 0, .mk op t s n ks, hN, v, w, _, hv, _ => by
    rw [P.dpC] at hN
    omega
  | N + 1, .mk op t s n ks, hN, v, w, hask, hv, hw => by
    have IH := Lib.hid (eachC_any a f hf N)
    have HDN := Lib.hid (show ∀ e ∈ ks, dpC e ≤ N from fun e he => by
      have := P.dpCs_mem he
      rw [P.dpC] at hN
      omega)
    have hv0 := hv
    unfold LC at hv0
    obtain ⟨ka, kc, rfl, hmx, hc⟩ := hv0
    unfold maxLen at hmx
    have HWK := Lib.hid (show ∀ e ∈ ks, wfC e from fun e he => wfCs_mem (by unfold wfC at hw; exact hw.2.2.2.2) e he)
    have hb0 := one_belowN w (.cells #[.int .i64 op, .int .i64 t, .string (bs s), .int .i64 n, .slice ka ks.length kc] 28)
    have HB := Lib.hid hb0
    have HC := Lib.hid hc
    have HQ := Lib.hid (Blk.new w 28 #[.int .i64 op, .int .i64 t, .string (bs s), .int .i64 n, .slice ka ks.length kc])
    have HKD := Lib.hid (fun W => kidsC_any W _ op t s n ks ka kc rfl)
    have HAK := Lib.hid hask
    have HA := Lib.hid (hask _ _ _ hb0 (LC.keep (Keeps.below hb0 (Nat.le_refl _)) _ hv) hw)
    have hfm := hf (.mk op t s n ks)
    rw [eachC_mk]
    clear hc hv hw hN hb0 hask
    generalize f (.mk op t s n ks) = F0 at *
    generalize bs s = S at *
    by_cases hF0 : F0 = 0
    · subst hF0
      have e1 : P.andE 0 (eachCs f ks) = eachCs f ks := rfl
      rw [e1]
      clear e1
      generalize hR : eachCs f ks = R at *
      have HR := Lib.hid hR
      clear hR
      go_enter Try.func61, Try.ntmps61
      go_wp2_with fail
      generalize hW : w.alloc (.cells #[.int .i64 op, .int .i64 t, .string S, .int .i64 n, .slice ka ks.length kc] 28) = W at *
      have hwl : w.heap.size < W.heap.size := HQ.out.lt
      clear hW
      have hA := HA.out
      rw [show ErTo 0 W = (fun e w' => e = .returned (.int .i64 0) ∧ Below W.heap.size W w') from rfl] at hA
      with_reducible refine hA.mono ?_
      rintro e W0 ⟨rfl, hb0⟩
      have HB0 := Lib.hid (HB.out.trans (hb0.mono HB.out.size))
      obtain ⟨q0, q1, q2, q3, q4⟩ := five_cellsK (HQ.out.live' hb0)
      clear hb0 hA HA
      go_wp2_with fail
      with_reducible refine (HKD.out W0).mono ?_
      rintro e W1 ⟨rfl, hb1⟩
      have HB1 := Lib.hid (HB0.out.trans (hb1.mono HB0.out.size))
      clear hb1 HKD q0 q1 q2 q3 q4 HB0
      go_wp2_with fail
      go_loopw [21] (fun i wr => ∃ j : Nat, i = .int .i64 (j : Nat) ∧ j ≤ ks.length ∧ eachCs f (ks.take j) = 0 ∧ Below W1.heap.size W1 wr) (fun i _ => ks.length - (intOf i).toNat)
      case atStart => exact ⟨0, rfl, Nat.zero_le _, by rw [List.take_zero, P.eachCs], Below.refl _ _⟩
      case round =>
        obtain ⟨j, rfl, hj, hno, hbr⟩ := hrel
        have HNO := Lib.hid hno
        have HBR := Lib.hid hbr
        clear hno hbr
        by_cases hlt : j < ks.length
        · obtain ⟨g, off, rfl, _, hs⟩ : ∃ g off, ka = some ⟨g, off, none⟩ ∧ True ∧ LCs (fun _ => True) w g off ks := by
            rcases HC.out with h0 | h0
            · rw [h0] at hlt
              simp at hlt
            · exact h0
          obtain ⟨y, a0, a1, a2, a3, a4, hy, k0, k1, k2, k3, k4, hlx⟩ := LCs.at ks hs j hlt
          obtain ⟨yo, ym, ys, yu, ya, yn, yc, hye⟩ := LC.any hlx
          injection hye with hye
          injection hye with hye
          injection hye with g0 hye
          injection hye with g1 hye
          injection hye with g2 hye
          injection hye with g3 hye
          injection hye with g4 hye
          subst g0 g1 g2 g3 g4
          clear hye
          have hbw := HB1.out.trans (HBR.out.mono HB1.out.size)
          have hq : ∀ (o : Nat) (u : Value), w.cell? ⟨g, o, none⟩ = some u → wr.cell? ⟨g, o, none⟩ = some u := fun o u hu => (hbw.cell (p := ⟨g, o, none⟩) (World.block_lt_of_cell? w _ hu)).trans hu
          have c0 := hq _ _ k0
          have c1 := hq _ _ k1
          have c2 := hq _ _ k2
          have c3 := hq _ _ k3
          have c4 := hq _ _ k4
          have hby := one_belowN wr (.cells #[.int .i64 yo, .int .i64 ym, .string ys, .int .i64 yu, .slice ya yn yc] 28)
          have HY := Lib.hid (IH.out y (HDN.out y (List.mem_of_getElem? hy)) _ _ ((HAK.out.below hbw).below hby) (LC.keep (Keeps.below hby (Nat.le_refl _)) y (LC.keep (Keeps.below hbw (Nat.le_refl _)) y hlx)) (HWK.out y (List.mem_of_getElem? hy)))
          have HBY := Lib.hid hby
          have HTK := Lib.hid (eachCs_take (f := f) hy HNO.out)
          have d1 : (0 : Int) ≤ (j : Int) := by omega
          have d2 : (j : Int) < (ks.length : Int) := by omega
          have d3 : decide ((j : Int) < (ks.length : Int)) = true := decide_eq_true (by omega)
          have d4 : decide (j < ks.length) = true := decide_eq_true hlt
          clear hs k0 k1 k2 k3 k4 hlx hbw hq hby hy
          generalize eachC f y = FY at *
          by_cases hdp : FY = 0
          · subst hdp
            have hY := HY.out
            rw [show ErTo 0 (wr.alloc (.cells #[.int .i64 yo, .int .i64 ym, .string ys, .int .i64 yu, .slice ya yn yc] 28)) = (fun e w' => e = .returned (.int .i64 0) ∧ Below (wr.alloc (.cells #[.int .i64 yo, .int .i64 ym, .string ys, .int .i64 yu, .slice ya yn yc] 28)).heap.size (wr.alloc (.cells #[.int .i64 yo, .int .i64 ym, .string ys, .int .i64 yu, .slice ya yn yc] 28)) w') from rfl] at hY
            have HY2 := Lib.hid hY
            clear hY
            go_wp2_with fail
            with_reducible refine HY2.out.mono ?_
            rintro e w2 ⟨rfl, hb2⟩
            go_wp2_with fail
            go_roundw
            case rel => exact ⟨j + 1, by go_num, by omega, HTK.out.1 (by first | trivial | rfl), HBR.out.trans ((HBY.out.trans (hb2.mono HBY.out.size)).mono HBR.out.size)⟩
            case measure => simp [intOf]; omega
          · have f1 : ((FY : Int) != 0) = true := by simp; omega
            have f2 : ((FY : Int) == 0) = false := by simp; omega
            have f3 : (FY == 0) = false := by simpa using hdp
            have HDP := Lib.hid hdp
            clear hdp
            go_wp2_with fail
            with_reducible refine HY.out.mono ?_
            rintro e w2 ⟨rfl, hb2⟩
            go_wp2_with fail
            go_ret
            exact ⟨congrArg (fun n : Nat => Ending.returned (.int .i64 (n : Nat))) ((HTK.out.2 HDP.out).symm.trans HR.out), HB1.out.trans ((HBR.out.trans ((HBY.out.trans (hb2.mono HBY.out.size)).mono HBR.out.size)).mono HB1.out.size)⟩
        · obtain rfl : j = ks.length := by omega
          have HRZ := Lib.hid (show R = 0 by rw [← HR.out, ← HNO.out, List.take_length])
          clear hlt
          go_wp2_with fail
          go_ret
          exact ⟨by rw [HRZ.out]; rfl, HB1.out.trans (HBR.out.mono HB1.out.size)⟩
    · have e1 : P.andE F0 (eachCs f ks) = F0 := by unfold P.andE; rw [if_neg hF0]
      rw [e1]
      have f1 : ((F0 : Int) != 0) = true := by simp; omega
      have f2 : ((F0 : Int) == 0) = false := by simp; omega
      have f3 : (F0 == 0) = false := by simpa using hF0
      clear e1 hF0
      go_enter Try.func61, Try.ntmps61
      go_wp2_with fail
      with_reducible refine HA.out.mono ?_
      rintro e W0 ⟨rfl, hb0⟩
      go_wp2_with fail
      go_ret
      exact ⟨rfl, HB.out.trans (hb0.mono HB.out.size)⟩
set_option maxHeartbeats 3200000 in
theorem withinC_any (a : Nat) (f : CO → Nat) (hf : ∀ e, f e ≤ 100) (e : CO) (v : Value) (w : World) (hask : AskC a f w) (hv : LC (fun _ => True) w v e) (hw : wfC e) :
    Calls Try.prog 44 #[v, .func (.func 45) #[] #[], .func (.func 46) #[.pointer (some ⟨a, 0, none⟩)] #[]] w (ErTo (withinC f e) w) := by
  obtain ⟨op, t, s, n, ks⟩ := e
  have hv0 := hv
  unfold LC at hv0
  obtain ⟨ka, kc, rfl, _, _⟩ := hv0
  have hb0 := one_belowN w (.cells #[.int .i64 op, .int .i64 t, .string (bs s), .int .i64 n, .slice ka ks.length kc] 28)
  have HB := Lib.hid hb0
  have HV := Lib.hid (fun w' (hb : Below w.heap.size w w') => LC.keep (Keeps.below hb (Nat.le_refl _)) _ hv)
  have HQ := Lib.hid (Blk.new w 28 #[.int .i64 op, .int .i64 t, .string (bs s), .int .i64 n, .slice ka ks.length kc])
  have HD := Lib.hid (deeperC_any 6 (.mk op t s n ks) (by omega) 6 _ _ rfl (HV.out _ hb0))
  unfold P.withinC
  by_cases h6 : 6 < dpC (.mk op t s n ks)
  · rw [if_pos h6]
    rw [decide_eq_true h6] at HD
    clear h6 hv hb0 hw hask HV
    generalize bs s = S at *
    go_enter Try.func44, Try.ntmps44
    go_wp2_with fail
    with_reducible refine HD.out.mono ?_
    rintro e w2 ⟨rfl, hb2⟩
    go_wp2_with fail
    go_ret
    exact ⟨rfl, HB.out.trans (hb2.mono HB.out.size)⟩
  · rw [if_neg h6]
    rw [decide_eq_false h6] at HD
    have HE := Lib.hid (fun w' (hb : Below w.heap.size w w') => eachC_any a f hf 6 (.mk op t s n ks) (by omega) _ w' (hask.below hb) (HV.out w' hb) hw)
    clear h6 hv hb0 hw hask HV
    generalize eachC f (.mk op t s n ks) = R at *
    generalize bs s = S at *
    go_enter Try.func44, Try.ntmps44
    go_wp2_with fail
    with_reducible refine HD.out.mono ?_
    rintro e w2 ⟨rfl, hb2⟩
    have HB2 := Lib.hid (HB.out.trans (hb2.mono HB.out.size))
    obtain ⟨q0, q1, q2, q3, q4⟩ := five_cellsK (HQ.out.live' hb2)
    have HE2 := Lib.hid (HE.out w2 HB2.out)
    clear hb2
    go_wp2_with fail
    with_reducible refine HE2.out.mono ?_
    rintro e w3 ⟨rfl, hb3⟩
    go_wp2_with fail
    go_ret
    exact ⟨rfl, HB2.out.trans (hb3.mono HB2.out.size)⟩
end Go.Proofs.Ytlgnagmmljdkiab.Lx
