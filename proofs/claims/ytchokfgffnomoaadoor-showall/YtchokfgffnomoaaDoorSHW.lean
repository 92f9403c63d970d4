/-
  What a page tells of statements, as contracts.
-/
import Derived.Test.YtchokfgffnomoaaDoorSHZ
import Derived.Test.YtchokfgffnomoaaDoorSHStore
import Derived.Test.YtchokfgffnomoaaDoorSHAdd
import Derived.Test.YtchokfgffnomoaaDoorSHCas
import Derived.Test.YtchokfgffnomoaaDoorSHX
import Derived.Test.YtchokfgffnomoaaDoorDP
import Derived.Test.YtchokfgffnomoaaDoorQSame
namespace Go.Proofs.YtchokfgffnomoaaDoor.Lx
open Go.RowKit
open P (EX CO ST)
set_option maxRecDepth 100000
set_option linter.unusedVariables false
set_option linter.unusedSimpArgs false
/-- What tells statements of that kind. -/
def fs (b : Nat) (op : Int) : Value := if op = 1 then .func (.func 104) #[.pointer (some ⟨b, 0, none⟩)] #[] else if op = 2 then .func (.func 105) #[.pointer (some ⟨b, 0, none⟩)] #[] else if op = 3 then .func (.func 106) #[.pointer (some ⟨b, 0, none⟩)] #[] else if op = 4 then .func (.func 107) #[.pointer (some ⟨b, 0, none⟩)] #[] else if op = 5 then .func (.func 108) #[.pointer (some ⟨b, 0, none⟩)] #[] else if op = 6 then .func (.func 109) #[.pointer (some ⟨b, 0, none⟩)] #[] else if op = 7 then .func (.func 110) #[.pointer (some ⟨b, 0, none⟩)] #[] else .nilFunc
set_option maxHeartbeats 1600000 in
theorem stmtOf_any (b : Nat) (op : Int) (w : World) : Calls Tryd.prog 96 #[.pointer (some ⟨b, 0, none⟩), .int .i64 op] w (fun e w' => e = .returned (fs b op) ∧ w = w') := by
  by_cases h1 : op = 1
  · subst h1
    show Calls Tryd.prog 96 #[.pointer (some ⟨b, 0, none⟩), .int .i64 1] w (fun e w' => e = .returned (.func (.func 104) #[.pointer (some ⟨b, 0, none⟩)] #[]) ∧ w = w')
    go_enter Tryd.func96, Tryd.ntmps96
    go_wp2_with fail
    go_ret
    exact ⟨rfl, rfl⟩
  by_cases h2 : op = 2
  · subst h2
    show Calls Tryd.prog 96 #[.pointer (some ⟨b, 0, none⟩), .int .i64 2] w (fun e w' => e = .returned (.func (.func 105) #[.pointer (some ⟨b, 0, none⟩)] #[]) ∧ w = w')
    go_enter Tryd.func96, Tryd.ntmps96
    go_wp2_with fail
    go_ret
    exact ⟨rfl, rfl⟩
  by_cases h3 : op = 3
  · subst h3
    show Calls Tryd.prog 96 #[.pointer (some ⟨b, 0, none⟩), .int .i64 3] w (fun e w' => e = .returned (.func (.func 106) #[.pointer (some ⟨b, 0, none⟩)] #[]) ∧ w = w')
    go_enter Tryd.func96, Tryd.ntmps96
    go_wp2_with fail
    go_ret
    exact ⟨rfl, rfl⟩
  by_cases h4 : op = 4
  · subst h4
    show Calls Tryd.prog 96 #[.pointer (some ⟨b, 0, none⟩), .int .i64 4] w (fun e w' => e = .returned (.func (.func 107) #[.pointer (some ⟨b, 0, none⟩)] #[]) ∧ w = w')
    go_enter Tryd.func96, Tryd.ntmps96
    go_wp2_with fail
    go_ret
    exact ⟨rfl, rfl⟩
  by_cases h5 : op = 5
  · subst h5
    show Calls Tryd.prog 96 #[.pointer (some ⟨b, 0, none⟩), .int .i64 5] w (fun e w' => e = .returned (.func (.func 108) #[.pointer (some ⟨b, 0, none⟩)] #[]) ∧ w = w')
    go_enter Tryd.func96, Tryd.ntmps96
    go_wp2_with fail
    go_ret
    exact ⟨rfl, rfl⟩
  by_cases h6 : op = 6
  · subst h6
    show Calls Tryd.prog 96 #[.pointer (some ⟨b, 0, none⟩), .int .i64 6] w (fun e w' => e = .returned (.func (.func 109) #[.pointer (some ⟨b, 0, none⟩)] #[]) ∧ w = w')
    go_enter Tryd.func96, Tryd.ntmps96
    go_wp2_with fail
    go_ret
    exact ⟨rfl, rfl⟩
  by_cases h7 : op = 7
  · subst h7
    show Calls Tryd.prog 96 #[.pointer (some ⟨b, 0, none⟩), .int .i64 7] w (fun e w' => e = .returned (.func (.func 110) #[.pointer (some ⟨b, 0, none⟩)] #[]) ∧ w = w')
    go_enter Tryd.func96, Tryd.ntmps96
    go_wp2_with fail
    go_ret
    exact ⟨rfl, rfl⟩
  have e1 : (op == 1) = false := by simp; omega
  have e2 : (op == 2) = false := by simp; omega
  have e3 : (op == 3) = false := by simp; omega
  have e4 : (op == 4) = false := by simp; omega
  have e5 : (op == 5) = false := by simp; omega
  have e6 : (op == 6) = false := by simp; omega
  have e7 : (op == 7) = false := by simp; omega
  have hf : fs b op = .nilFunc := by simp [fs, h1, h2, h3, h4, h5, h6, h7]
  rw [hf]
  clear hf
  go_enter Tryd.func96, Tryd.ntmps96
  go_wp2_with fail
  go_ret
  exact ⟨rfl, rfl⟩
mutual
/-- Its numbers are ints. -/
def okS : ST → Prop
  | .mk kd md rg lc ar th el => okXs ar ∧ okSs th ∧ okSs el
def okSs : List ST → Prop
  | [] => True
  | e :: es => okS e ∧ okSs es
end
theorem okSs_mem : ∀ {es : List ST}, okSs es → ∀ e ∈ es, okS e
  | [], _, e, he => by cases he
  | x :: es, h, e, he => by
    unfold okSs at h
    rcases List.mem_cons.1 he with rfl | he
    · exact h.1
    · exact okSs_mem h.2 e he
theorem xS_set (md : Int) (rg lc : List UInt8) (ar : List EX) (th el : List ST) (d : Nat) : P.xS (.mk 1 md rg lc ar th el) d = P.ind d ++ (setT md rg lc ar ++ [10]) := by
  simp [P.xS, setT, kidT]
theorem xS_load (md : Int) (rg lc : List UInt8) (ar : List EX) (th el : List ST) (d : Nat) : P.xS (.mk 2 md rg lc ar th el) d = P.ind d ++ (loadT md rg lc ar ++ [10]) := by
  simp [P.xS, loadT, kidT]
theorem xS_store (md : Int) (rg lc : List UInt8) (ar : List EX) (th el : List ST) (d : Nat) : P.xS (.mk 3 md rg lc ar th el) d = P.ind d ++ (storeT md rg lc ar ++ [10]) := by
  simp [P.xS, storeT, kidT]
theorem xS_add (md : Int) (rg lc : List UInt8) (ar : List EX) (th el : List ST) (d : Nat) : P.xS (.mk 4 md rg lc ar th el) d = P.ind d ++ (addT md rg lc ar ++ [10]) := by
  simp [P.xS, addT, kidT]
theorem xS_cas (md : Int) (rg lc : List UInt8) (ar : List EX) (th el : List ST) (d : Nat) : P.xS (.mk 5 md rg lc ar th el) d = P.ind d ++ (casT md rg lc ar ++ [10]) := by
  simp [P.xS, casT, kidT]
theorem xS_fence (md : Int) (rg lc : List UInt8) (ar : List EX) (th el : List ST) (d : Nat) : P.xS (.mk 6 md rg lc ar th el) d = P.ind d ++ (fenceT md rg lc ar ++ [10]) := by
  simp [P.xS, fenceT, kidT]
theorem xS_choice (md : Int) (rg lc : List UInt8) (ar : List EX) (th el : List ST) (d : Nat) : P.xS (.mk 7 md rg lc ar th el) d = P.ind d ++ (choiceT ar th el d ++ [10]) := by
  by_cases he : el = []
  · subst he
    simp [P.xS, choiceT, blockT, kidT]
  · simp [P.xS, choiceT, blockT, kidT, he]
set_option maxHeartbeats 6400000 in
theorem pgstm_any {B b : Nat} : ∀ (N : Nat) (s : ST), ST.size s ≤ N → okS s → StPg B b s
  | 0, .mk kd md rg lc ar th el, hN, hok => by
    unfold ST.size at hN
    omega
  | N + 1, .mk kd md rg lc ar th el, hN, hok => by
    intro d m l v w hd hv h hl h2
    unfold okS at hok
    obtain ⟨o1, o2, o3⟩ := hok
    unfold ST.size at hN
    have HE := Lib.hid (show ∀ e ∈ ar, ExOk B b e from fun e he => pgexpr_any _ e (Nat.le_refl _) (okXs_mem o1 e he))
    have HT := Lib.hid (show ∀ e ∈ th, StPg B b e from fun e he => by
      obtain ⟨i, hi⟩ := List.getElem?_of_mem he
      have h1 := sizes_mem th i e hi
      exact pgstm_any N e (by omega) (okSs_mem o2 e he))
    have HZ := Lib.hid (show ∀ e ∈ el, StPg B b e from fun e he => by
      obtain ⟨i, hi⟩ := List.getElem?_of_mem he
      have h1 := sizes_mem el i e hi
      exact pgstm_any N e (by omega) (okSs_mem o3 e he))
    have HL := Lib.hid hl
    have HD := Lib.hid hd
    have hv0 := hv
    unfold LS at hv0
    obtain ⟨aa, ca, at', ct, ae, ce, rfl, _⟩ := hv0
    have HV := Lib.hid hv
    have HB := Lib.hid (Blk.new w 68 #[.int .i64 kd, .int .i64 md, .string (bs rg), .string (bs lc), .slice aa ar.length ca, .slice at' th.length ct, .slice ae el.length ce])
    have HW := Lib.hid (show Below w.heap.size w (w.alloc (.cells #[.int .i64 kd, .int .i64 md, .string (bs rg), .string (bs lc), .slice aa ar.length ca, .slice at' th.length ct, .slice ae el.length ce] 68)) from (Below.refl _ _).alloc (Nat.le_refl _) _)
    have HK := Lib.hid (show Kp B b w (w.alloc (.cells #[.int .i64 kd, .int .i64 md, .string (bs rg), .string (bs lc), .slice aa ar.length ca, .slice at' th.length ct, .slice ae el.length ce] 68)) from Kp.below HW.out h.low)
    have HP := Lib.hid (h.below HW.out)
    have HN := Lib.hid (show w.heap.size ≠ b from by have := h.lt; omega)
    clear hl hv h hd h2 o1 o2 o3 hN
    by_cases h1 : kd = 1
    · subst h1
      rw [xS_set] at HL ⊢
      have HA := Lib.hid (fun l' w' (hv : LS (· < B) w' (.agg #[.int .i64 1, .int .i64 md, .string (bs rg), .string (bs lc), .slice aa ar.length ca, .slice at' th.length ct, .slice ae el.length ce]) (.mk 1 md rg lc ar th el)) (hp : Pg B w' b m l') (hl : l'.length + (setT md rg lc ar).length ≤ big) => set_s md rg lc ar th el HE.out m l' _ w' hv hp hl)
      generalize (setT md rg lc ar) = T at *
      have HL := Lib.hid (show l.length + (2 * d + (T.length + 1)) ≤ big from by
        have := HL.out
        simp only [List.length_append, List.length_cons, List.length_nil, P.ind, List.length_replicate] at this
        omega)
      go_enter Tryd.func85, Tryd.ntmps85
      go_wp2_with fail
      generalize w.alloc (.cells #[.int .i64 1, .int .i64 md, .string (bs rg), .string (bs lc), .slice aa ar.length ca, .slice at' th.length ct, .slice ae el.length ce] 68) = w1 at *
      obtain ⟨s0, s1, s2, s3, s4, s5, s6, _, _, _, _, _, _, _⟩ := seven_free HB.out
      with_reducible refine (stmtOf_any b 1 w1).mono ?_
      rintro e w2 ⟨rfl, rfl⟩
      rw [show fs b 1 = .func (.func 104) #[.pointer (some ⟨b, 0, none⟩)] #[] from rfl]
      have hrun : Sem.run Tryd.prog (binOp BinOp.eql 106 (.func (.func 104) #[.pointer (some ⟨b, 0, none⟩)] #[]) .nilFunc) w1 = .ok (.bool false) w1 := by kernel_rfl
      have HI := Lib.hid (indent_any d m HD.out HP.out (by have := HL.out; unfold big at this; omega))
      go_wp2_with fail
      with_reducible refine HI.out.mono ?_
      rintro e w3 ⟨rfl, hp3, hk3⟩
      have HB3 := Lib.hid (hk3.blk _ _ _ (by decide) HN.out HB.out)
      obtain ⟨s0, s1, s2, s3, s4, s5, s6, _, _, _, _, _, _, _⟩ := seven_free HB3.out
      have HA := Lib.hid (HA.out _ w3 (HV.out.keep (fun g hg hl => (HK.out.trans hk3).bel.block g hg)) hp3 (by have := HL.out; simp only [List.length_append, P.ind, List.length_replicate]; omega))
      have HK3 := Lib.hid (HK.out.trans hk3)
      clear hp3 hk3
      go_wp2_with fail
      with_reducible refine HA.out.mono ?_
      rintro e w4 ⟨rfl, hp4, hk4⟩
      have HS4 := Lib.hid (say_new (w := w4) _ rfl [⟨#[10]⟩] #[.string ⟨#[10]⟩] 1 rfl rfl hp4 (by
        have h1 := HL.out
        unfold big at h1
        simp only [List.length_append, P.ind, List.length_replicate]
        show _ + 1 ≤ _
        omega) (by omega))
      rw [show cat [⟨#[10]⟩] = [10] from rfl] at HS4
      have HK4 := Lib.hid (HK3.out.trans hk4)
      clear hp4 hk4
      go_wp2_with fail
      with_reducible refine HS4.out.mono ?_
      rintro e w5 ⟨rfl, hp5, hk5⟩
      go_wp2_with fail
      go_end0
      refine ⟨rfl, ?_, HK4.out.trans hk5⟩
      simp only [List.append_assoc] at hp5
      exact hp5
    by_cases h2 : kd = 2
    · subst h2
      rw [xS_load] at HL ⊢
      have HA := Lib.hid (fun l' w' (hv : LS (· < B) w' (.agg #[.int .i64 2, .int .i64 md, .string (bs rg), .string (bs lc), .slice aa ar.length ca, .slice at' th.length ct, .slice ae el.length ce]) (.mk 2 md rg lc ar th el)) (hp : Pg B w' b m l') (hl : l'.length + (loadT md rg lc ar).length ≤ big) => load_s md rg lc ar th el HE.out m l' _ w' hv hp hl)
      generalize (loadT md rg lc ar) = T at *
      have HL := Lib.hid (show l.length + (2 * d + (T.length + 1)) ≤ big from by
        have := HL.out
        simp only [List.length_append, List.length_cons, List.length_nil, P.ind, List.length_replicate] at this
        omega)
      go_enter Tryd.func85, Tryd.ntmps85
      go_wp2_with fail
      generalize w.alloc (.cells #[.int .i64 2, .int .i64 md, .string (bs rg), .string (bs lc), .slice aa ar.length ca, .slice at' th.length ct, .slice ae el.length ce] 68) = w1 at *
      obtain ⟨s0, s1, s2, s3, s4, s5, s6, _, _, _, _, _, _, _⟩ := seven_free HB.out
      with_reducible refine (stmtOf_any b 2 w1).mono ?_
      rintro e w2 ⟨rfl, rfl⟩
      rw [show fs b 2 = .func (.func 105) #[.pointer (some ⟨b, 0, none⟩)] #[] from rfl]
      have hrun : Sem.run Tryd.prog (binOp BinOp.eql 106 (.func (.func 105) #[.pointer (some ⟨b, 0, none⟩)] #[]) .nilFunc) w1 = .ok (.bool false) w1 := by kernel_rfl
      have HI := Lib.hid (indent_any d m HD.out HP.out (by have := HL.out; unfold big at this; omega))
      go_wp2_with fail
      with_reducible refine HI.out.mono ?_
      rintro e w3 ⟨rfl, hp3, hk3⟩
      have HB3 := Lib.hid (hk3.blk _ _ _ (by decide) HN.out HB.out)
      obtain ⟨s0, s1, s2, s3, s4, s5, s6, _, _, _, _, _, _, _⟩ := seven_free HB3.out
      have HA := Lib.hid (HA.out _ w3 (HV.out.keep (fun g hg hl => (HK.out.trans hk3).bel.block g hg)) hp3 (by have := HL.out; simp only [List.length_append, P.ind, List.length_replicate]; omega))
      have HK3 := Lib.hid (HK.out.trans hk3)
      clear hp3 hk3
      go_wp2_with fail
      with_reducible refine HA.out.mono ?_
      rintro e w4 ⟨rfl, hp4, hk4⟩
      have HS4 := Lib.hid (say_new (w := w4) _ rfl [⟨#[10]⟩] #[.string ⟨#[10]⟩] 1 rfl rfl hp4 (by
        have h1 := HL.out
        unfold big at h1
        simp only [List.length_append, P.ind, List.length_replicate]
        show _ + 1 ≤ _
        omega) (by omega))
      rw [show cat [⟨#[10]⟩] = [10] from rfl] at HS4
      have HK4 := Lib.hid (HK3.out.trans hk4)
      clear hp4 hk4
      go_wp2_with fail
      with_reducible refine HS4.out.mono ?_
      rintro e w5 ⟨rfl, hp5, hk5⟩
      go_wp2_with fail
      go_end0
      refine ⟨rfl, ?_, HK4.out.trans hk5⟩
      simp only [List.append_assoc] at hp5
      exact hp5
    by_cases h3 : kd = 3
    · subst h3
      rw [xS_store] at HL ⊢
      have HA := Lib.hid (fun l' w' (hv : LS (· < B) w' (.agg #[.int .i64 3, .int .i64 md, .string (bs rg), .string (bs lc), .slice aa ar.length ca, .slice at' th.length ct, .slice ae el.length ce]) (.mk 3 md rg lc ar th el)) (hp : Pg B w' b m l') (hl : l'.length + (storeT md rg lc ar).length ≤ big) => store_s md rg lc ar th el HE.out m l' _ w' hv hp hl)
      generalize (storeT md rg lc ar) = T at *
      have HL := Lib.hid (show l.length + (2 * d + (T.length + 1)) ≤ big from by
        have := HL.out
        simp only [List.length_append, List.length_cons, List.length_nil, P.ind, List.length_replicate] at this
        omega)
      go_enter Tryd.func85, Tryd.ntmps85
      go_wp2_with fail
      generalize w.alloc (.cells #[.int .i64 3, .int .i64 md, .string (bs rg), .string (bs lc), .slice aa ar.length ca, .slice at' th.length ct, .slice ae el.length ce] 68) = w1 at *
      obtain ⟨s0, s1, s2, s3, s4, s5, s6, _, _, _, _, _, _, _⟩ := seven_free HB.out
      with_reducible refine (stmtOf_any b 3 w1).mono ?_
      rintro e w2 ⟨rfl, rfl⟩
      rw [show fs b 3 = .func (.func 106) #[.pointer (some ⟨b, 0, none⟩)] #[] from rfl]
      have hrun : Sem.run Tryd.prog (binOp BinOp.eql 106 (.func (.func 106) #[.pointer (some ⟨b, 0, none⟩)] #[]) .nilFunc) w1 = .ok (.bool false) w1 := by kernel_rfl
      have HI := Lib.hid (indent_any d m HD.out HP.out (by have := HL.out; unfold big at this; omega))
      go_wp2_with fail
      with_reducible refine HI.out.mono ?_
      rintro e w3 ⟨rfl, hp3, hk3⟩
      have HB3 := Lib.hid (hk3.blk _ _ _ (by decide) HN.out HB.out)
      obtain ⟨s0, s1, s2, s3, s4, s5, s6, _, _, _, _, _, _, _⟩ := seven_free HB3.out
      have HA := Lib.hid (HA.out _ w3 (HV.out.keep (fun g hg hl => (HK.out.trans hk3).bel.block g hg)) hp3 (by have := HL.out; simp only [List.length_append, P.ind, List.length_replicate]; omega))
      have HK3 := Lib.hid (HK.out.trans hk3)
      clear hp3 hk3
      go_wp2_with fail
      with_reducible refine HA.out.mono ?_
      rintro e w4 ⟨rfl, hp4, hk4⟩
      have HS4 := Lib.hid (say_new (w := w4) _ rfl [⟨#[10]⟩] #[.string ⟨#[10]⟩] 1 rfl rfl hp4 (by
        have h1 := HL.out
        unfold big at h1
        simp only [List.length_append, P.ind, List.length_replicate]
        show _ + 1 ≤ _
        omega) (by omega))
      rw [show cat [⟨#[10]⟩] = [10] from rfl] at HS4
      have HK4 := Lib.hid (HK3.out.trans hk4)
      clear hp4 hk4
      go_wp2_with fail
      with_reducible refine HS4.out.mono ?_
      rintro e w5 ⟨rfl, hp5, hk5⟩
      go_wp2_with fail
      go_end0
      refine ⟨rfl, ?_, HK4.out.trans hk5⟩
      simp only [List.append_assoc] at hp5
      exact hp5
    by_cases h4 : kd = 4
    · subst h4
      rw [xS_add] at HL ⊢
      have HA := Lib.hid (fun l' w' (hv : LS (· < B) w' (.agg #[.int .i64 4, .int .i64 md, .string (bs rg), .string (bs lc), .slice aa ar.length ca, .slice at' th.length ct, .slice ae el.length ce]) (.mk 4 md rg lc ar th el)) (hp : Pg B w' b m l') (hl : l'.length + (addT md rg lc ar).length ≤ big) => add_s md rg lc ar th el HE.out m l' _ w' hv hp hl)
      generalize (addT md rg lc ar) = T at *
      have HL := Lib.hid (show l.length + (2 * d + (T.length + 1)) ≤ big from by
        have := HL.out
        simp only [List.length_append, List.length_cons, List.length_nil, P.ind, List.length_replicate] at this
        omega)
      go_enter Tryd.func85, Tryd.ntmps85
      go_wp2_with fail
      generalize w.alloc (.cells #[.int .i64 4, .int .i64 md, .string (bs rg), .string (bs lc), .slice aa ar.length ca, .slice at' th.length ct, .slice ae el.length ce] 68) = w1 at *
      obtain ⟨s0, s1, s2, s3, s4, s5, s6, _, _, _, _, _, _, _⟩ := seven_free HB.out
      with_reducible refine (stmtOf_any b 4 w1).mono ?_
      rintro e w2 ⟨rfl, rfl⟩
      rw [show fs b 4 = .func (.func 107) #[.pointer (some ⟨b, 0, none⟩)] #[] from rfl]
      have hrun : Sem.run Tryd.prog (binOp BinOp.eql 106 (.func (.func 107) #[.pointer (some ⟨b, 0, none⟩)] #[]) .nilFunc) w1 = .ok (.bool false) w1 := by kernel_rfl
      have HI := Lib.hid (indent_any d m HD.out HP.out (by have := HL.out; unfold big at this; omega))
      go_wp2_with fail
      with_reducible refine HI.out.mono ?_
      rintro e w3 ⟨rfl, hp3, hk3⟩
      have HB3 := Lib.hid (hk3.blk _ _ _ (by decide) HN.out HB.out)
      obtain ⟨s0, s1, s2, s3, s4, s5, s6, _, _, _, _, _, _, _⟩ := seven_free HB3.out
      have HA := Lib.hid (HA.out _ w3 (HV.out.keep (fun g hg hl => (HK.out.trans hk3).bel.block g hg)) hp3 (by have := HL.out; simp only [List.length_append, P.ind, List.length_replicate]; omega))
      have HK3 := Lib.hid (HK.out.trans hk3)
      clear hp3 hk3
      go_wp2_with fail
      with_reducible refine HA.out.mono ?_
      rintro e w4 ⟨rfl, hp4, hk4⟩
      have HS4 := Lib.hid (say_new (w := w4) _ rfl [⟨#[10]⟩] #[.string ⟨#[10]⟩] 1 rfl rfl hp4 (by
        have h1 := HL.out
        unfold big at h1
        simp only [List.length_append, P.ind, List.length_replicate]
        show _ + 1 ≤ _
        omega) (by omega))
      rw [show cat [⟨#[10]⟩] = [10] from rfl] at HS4
      have HK4 := Lib.hid (HK3.out.trans hk4)
      clear hp4 hk4
      go_wp2_with fail
      with_reducible refine HS4.out.mono ?_
      rintro e w5 ⟨rfl, hp5, hk5⟩
      go_wp2_with fail
      go_end0
      refine ⟨rfl, ?_, HK4.out.trans hk5⟩
      simp only [List.append_assoc] at hp5
      exact hp5
    by_cases h5 : kd = 5
    · subst h5
      rw [xS_cas] at HL ⊢
      have HA := Lib.hid (fun l' w' (hv : LS (· < B) w' (.agg #[.int .i64 5, .int .i64 md, .string (bs rg), .string (bs lc), .slice aa ar.length ca, .slice at' th.length ct, .slice ae el.length ce]) (.mk 5 md rg lc ar th el)) (hp : Pg B w' b m l') (hl : l'.length + (casT md rg lc ar).length ≤ big) => cas_s md rg lc ar th el HE.out m l' _ w' hv hp hl)
      generalize (casT md rg lc ar) = T at *
      have HL := Lib.hid (show l.length + (2 * d + (T.length + 1)) ≤ big from by
        have := HL.out
        simp only [List.length_append, List.length_cons, List.length_nil, P.ind, List.length_replicate] at this
        omega)
      go_enter Tryd.func85, Tryd.ntmps85
      go_wp2_with fail
      generalize w.alloc (.cells #[.int .i64 5, .int .i64 md, .string (bs rg), .string (bs lc), .slice aa ar.length ca, .slice at' th.length ct, .slice ae el.length ce] 68) = w1 at *
      obtain ⟨s0, s1, s2, s3, s4, s5, s6, _, _, _, _, _, _, _⟩ := seven_free HB.out
      with_reducible refine (stmtOf_any b 5 w1).mono ?_
      rintro e w2 ⟨rfl, rfl⟩
      rw [show fs b 5 = .func (.func 108) #[.pointer (some ⟨b, 0, none⟩)] #[] from rfl]
      have hrun : Sem.run Tryd.prog (binOp BinOp.eql 106 (.func (.func 108) #[.pointer (some ⟨b, 0, none⟩)] #[]) .nilFunc) w1 = .ok (.bool false) w1 := by kernel_rfl
      have HI := Lib.hid (indent_any d m HD.out HP.out (by have := HL.out; unfold big at this; omega))
      go_wp2_with fail
      with_reducible refine HI.out.mono ?_
      rintro e w3 ⟨rfl, hp3, hk3⟩
      have HB3 := Lib.hid (hk3.blk _ _ _ (by decide) HN.out HB.out)
      obtain ⟨s0, s1, s2, s3, s4, s5, s6, _, _, _, _, _, _, _⟩ := seven_free HB3.out
      have HA := Lib.hid (HA.out _ w3 (HV.out.keep (fun g hg hl => (HK.out.trans hk3).bel.block g hg)) hp3 (by have := HL.out; simp only [List.length_append, P.ind, List.length_replicate]; omega))
      have HK3 := Lib.hid (HK.out.trans hk3)
      clear hp3 hk3
      go_wp2_with fail
      with_reducible refine HA.out.mono ?_
      rintro e w4 ⟨rfl, hp4, hk4⟩
      have HS4 := Lib.hid (say_new (w := w4) _ rfl [⟨#[10]⟩] #[.string ⟨#[10]⟩] 1 rfl rfl hp4 (by
        have h1 := HL.out
        unfold big at h1
        simp only [List.length_append, P.ind, List.length_replicate]
        show _ + 1 ≤ _
        omega) (by omega))
      rw [show cat [⟨#[10]⟩] = [10] from rfl] at HS4
      have HK4 := Lib.hid (HK3.out.trans hk4)
      clear hp4 hk4
      go_wp2_with fail
      with_reducible refine HS4.out.mono ?_
      rintro e w5 ⟨rfl, hp5, hk5⟩
      go_wp2_with fail
      go_end0
      refine ⟨rfl, ?_, HK4.out.trans hk5⟩
      simp only [List.append_assoc] at hp5
      exact hp5
    by_cases h6 : kd = 6
    · subst h6
      rw [xS_fence] at HL ⊢
      have HA := Lib.hid (fun l' w' (hv : LS (· < B) w' (.agg #[.int .i64 6, .int .i64 md, .string (bs rg), .string (bs lc), .slice aa ar.length ca, .slice at' th.length ct, .slice ae el.length ce]) (.mk 6 md rg lc ar th el)) (hp : Pg B w' b m l') (hl : l'.length + (fenceT md rg lc ar).length ≤ big) => fence_s md rg lc ar th el HE.out m l' _ w' hv hp hl)
      generalize (fenceT md rg lc ar) = T at *
      have HL := Lib.hid (show l.length + (2 * d + (T.length + 1)) ≤ big from by
        have := HL.out
        simp only [List.length_append, List.length_cons, List.length_nil, P.ind, List.length_replicate] at this
        omega)
      go_enter Tryd.func85, Tryd.ntmps85
      go_wp2_with fail
      generalize w.alloc (.cells #[.int .i64 6, .int .i64 md, .string (bs rg), .string (bs lc), .slice aa ar.length ca, .slice at' th.length ct, .slice ae el.length ce] 68) = w1 at *
      obtain ⟨s0, s1, s2, s3, s4, s5, s6, _, _, _, _, _, _, _⟩ := seven_free HB.out
      with_reducible refine (stmtOf_any b 6 w1).mono ?_
      rintro e w2 ⟨rfl, rfl⟩
      rw [show fs b 6 = .func (.func 109) #[.pointer (some ⟨b, 0, none⟩)] #[] from rfl]
      have hrun : Sem.run Tryd.prog (binOp BinOp.eql 106 (.func (.func 109) #[.pointer (some ⟨b, 0, none⟩)] #[]) .nilFunc) w1 = .ok (.bool false) w1 := by kernel_rfl
      have HI := Lib.hid (indent_any d m HD.out HP.out (by have := HL.out; unfold big at this; omega))
      go_wp2_with fail
      with_reducible refine HI.out.mono ?_
      rintro e w3 ⟨rfl, hp3, hk3⟩
      have HB3 := Lib.hid (hk3.blk _ _ _ (by decide) HN.out HB.out)
      obtain ⟨s0, s1, s2, s3, s4, s5, s6, _, _, _, _, _, _, _⟩ := seven_free HB3.out
      have HA := Lib.hid (HA.out _ w3 (HV.out.keep (fun g hg hl => (HK.out.trans hk3).bel.block g hg)) hp3 (by have := HL.out; simp only [List.length_append, P.ind, List.length_replicate]; omega))
      have HK3 := Lib.hid (HK.out.trans hk3)
      clear hp3 hk3
      go_wp2_with fail
      with_reducible refine HA.out.mono ?_
      rintro e w4 ⟨rfl, hp4, hk4⟩
      have HS4 := Lib.hid (say_new (w := w4) _ rfl [⟨#[10]⟩] #[.string ⟨#[10]⟩] 1 rfl rfl hp4 (by
        have h1 := HL.out
        unfold big at h1
        simp only [List.length_append, P.ind, List.length_replicate]
        show _ + 1 ≤ _
        omega) (by omega))
      rw [show cat [⟨#[10]⟩] = [10] from rfl] at HS4
      have HK4 := Lib.hid (HK3.out.trans hk4)
      clear hp4 hk4
      go_wp2_with fail
      with_reducible refine HS4.out.mono ?_
      rintro e w5 ⟨rfl, hp5, hk5⟩
      go_wp2_with fail
      go_end0
      refine ⟨rfl, ?_, HK4.out.trans hk5⟩
      simp only [List.append_assoc] at hp5
      exact hp5
    by_cases h7 : kd = 7
    · subst h7
      rw [xS_choice] at HL ⊢
      have HA := Lib.hid (fun l' w' (hv : LS (· < B) w' (.agg #[.int .i64 7, .int .i64 md, .string (bs rg), .string (bs lc), .slice aa ar.length ca, .slice at' th.length ct, .slice ae el.length ce]) (.mk 7 md rg lc ar th el)) (hp : Pg B w' b m l') (hl : l'.length + (choiceT ar th el d).length ≤ big) => choice_s md rg lc ar th el HE.out HT.out HZ.out d m HD.out l' _ w' hv hp hl)
      generalize (choiceT ar th el d) = T at *
      have HL := Lib.hid (show l.length + (2 * d + (T.length + 1)) ≤ big from by
        have := HL.out
        simp only [List.length_append, List.length_cons, List.length_nil, P.ind, List.length_replicate] at this
        omega)
      go_enter Tryd.func85, Tryd.ntmps85
      go_wp2_with fail
      generalize w.alloc (.cells #[.int .i64 7, .int .i64 md, .string (bs rg), .string (bs lc), .slice aa ar.length ca, .slice at' th.length ct, .slice ae el.length ce] 68) = w1 at *
      obtain ⟨s0, s1, s2, s3, s4, s5, s6, _, _, _, _, _, _, _⟩ := seven_free HB.out
      with_reducible refine (stmtOf_any b 7 w1).mono ?_
      rintro e w2 ⟨rfl, rfl⟩
      rw [show fs b 7 = .func (.func 110) #[.pointer (some ⟨b, 0, none⟩)] #[] from rfl]
      have hrun : Sem.run Tryd.prog (binOp BinOp.eql 106 (.func (.func 110) #[.pointer (some ⟨b, 0, none⟩)] #[]) .nilFunc) w1 = .ok (.bool false) w1 := by kernel_rfl
      have HI := Lib.hid (indent_any d m HD.out HP.out (by have := HL.out; unfold big at this; omega))
      go_wp2_with fail
      with_reducible refine HI.out.mono ?_
      rintro e w3 ⟨rfl, hp3, hk3⟩
      have HB3 := Lib.hid (hk3.blk _ _ _ (by decide) HN.out HB.out)
      obtain ⟨s0, s1, s2, s3, s4, s5, s6, _, _, _, _, _, _, _⟩ := seven_free HB3.out
      have HA := Lib.hid (HA.out _ w3 (HV.out.keep (fun g hg hl => (HK.out.trans hk3).bel.block g hg)) hp3 (by have := HL.out; simp only [List.length_append, P.ind, List.length_replicate]; omega))
      have HK3 := Lib.hid (HK.out.trans hk3)
      clear hp3 hk3
      go_wp2_with fail
      with_reducible refine HA.out.mono ?_
      rintro e w4 ⟨rfl, hp4, hk4⟩
      have HS4 := Lib.hid (say_new (w := w4) _ rfl [⟨#[10]⟩] #[.string ⟨#[10]⟩] 1 rfl rfl hp4 (by
        have h1 := HL.out
        unfold big at h1
        simp only [List.length_append, P.ind, List.length_replicate]
        show _ + 1 ≤ _
        omega) (by omega))
      rw [show cat [⟨#[10]⟩] = [10] from rfl] at HS4
      have HK4 := Lib.hid (HK3.out.trans hk4)
      clear hp4 hk4
      go_wp2_with fail
      with_reducible refine HS4.out.mono ?_
      rintro e w5 ⟨rfl, hp5, hk5⟩
      go_wp2_with fail
      go_end0
      refine ⟨rfl, ?_, HK4.out.trans hk5⟩
      simp only [List.append_assoc] at hp5
      exact hp5
    have hx : P.xS (.mk kd md rg lc ar th el) d = [] := by simp [P.xS, h1, h2, h3, h4, h5, h6, h7]
    rw [hx, List.append_nil]
    have HF := Lib.hid (show fs b kd = .nilFunc by simp [fs, h1, h2, h3, h4, h5, h6, h7])
    clear hx h1 h2 h3 h4 h5 h6 h7
    go_enter Tryd.func85, Tryd.ntmps85
    go_wp2_with fail
    generalize w.alloc (.cells #[.int .i64 kd, .int .i64 md, .string (bs rg), .string (bs lc), .slice aa ar.length ca, .slice at' th.length ct, .slice ae el.length ce] 68) = w1 at *
    with_reducible refine (stmtOf_any b kd w1).mono ?_
    rintro e w2 ⟨rfl, rfl⟩
    rw [HF.out]
    have hrun : Sem.run Tryd.prog (binOp BinOp.eql 106 .nilFunc .nilFunc) w1 = .ok (.bool true) w1 := by kernel_rfl
    go_wp2_with fail
    go_end0
    exact ⟨rfl, HP.out, HK.out⟩
end Go.Proofs.YtchokfgffnomoaaDoor.Lx
/-
  What a page tells of inits, threads, questions and programs, as contracts.
-/
namespace Go.Proofs.YtchokfgffnomoaaDoor.Lx
open Go.RowKit
open P (EX CO ST PG)
set_option maxRecDepth 100000
set_option linter.unusedVariables false
set_option linter.unusedSimpArgs false
set_option maxHeartbeats 1600000 in
theorem asks_any (k : Int) (w : World) : Calls Tryd.prog 53 #[.int .i64 k] w (fun e w' => e = .returned (.string (bs (P.xA k))) ∧ w = w') := by
  by_cases h1 : k = 1
  · subst h1
    rw [show bs (P.xA 1) = ⟨#[101, 120, 105, 115, 116, 115]⟩ from rfl]
    go_enter Tryd.func53, Tryd.ntmps53
    go_wp2_with fail
    go_ret
    exact ⟨rfl, rfl⟩
  by_cases h2 : k = 2
  · subst h2
    rw [show bs (P.xA 2) = ⟨#[102, 111, 114, 97, 108, 108]⟩ from rfl]
    go_enter Tryd.func53, Tryd.ntmps53
    go_wp2_with fail
    go_ret
    exact ⟨rfl, rfl⟩
  have e1 : (k == 1) = false := by simp; omega
  have e2 : (k == 2) = false := by simp; omega
  rw [show P.xA k = [] by unfold P.xA; rw [if_neg h1, if_neg h2], show bs [] = ⟨#[]⟩ from rfl]
  clear h1 h2
  go_enter Tryd.func53, Tryd.ntmps53
  go_wp2_with fail
  go_ret
  exact ⟨rfl, rfl⟩
/-- An init's text, and a thread's. -/
def cellT (c : CE) : List UInt8 := [105, 110, 105, 116, 32] ++ (c.1 ++ ([32] ++ (P.xN c.2 ++ [10])))
def threadT (es : List ST) : List UInt8 := [116, 104, 114, 101, 97, 100, 32] ++ (blockT es 0 ++ [10])
theorem pxI_take {cs : List CE} {j : Nat} {c : CE} (h : cs[j]? = some c) : P.xI (cs.take (j + 1)) = P.xI (cs.take j) ++ cellT c := by
  unfold P.xI
  rw [List.take_add_one, h]
  simp [cellT]
theorem pxI_le {cs : List CE} (j : Nat) : (P.xI (cs.take j)).length ≤ (P.xI cs).length := by
  conv => rhs; rw [← List.take_append_drop j cs]
  simp only [P.xI, List.map_append, List.flatten_append, List.length_append]
  omega
theorem pxT_take {ls : List (List ST)} {j : Nat} {l : List ST} (h : ls[j]? = some l) : P.xT (ls.take (j + 1)) = P.xT (ls.take j) ++ threadT l := by
  unfold P.xT
  rw [List.take_add_one, h]
  simp [threadT, blockT, P.ind]
theorem pxT_le {ls : List (List ST)} (j : Nat) : (P.xT (ls.take j)).length ≤ (P.xT ls).length := by
  conv => rhs; rw [← List.take_append_drop j ls]
  simp only [P.xT, List.map_append, List.flatten_append, List.length_append]
  omega
set_option maxHeartbeats 6400000 in
theorem cell_pg {B b : Nat} (nm : List UInt8) (n : Int) (hn : I64 n) (m : Int) (l : List UInt8) (w : World) (h : Pg B w b m l) (hl : l.length + (cellT (nm, n)).length ≤ big) :
    Calls Tryd.prog 51 #[.pointer (some ⟨b, 0, none⟩), .agg #[.string (bs nm), .int .i64 n]] w (Said B b m (l ++ cellT (nm, n)) (.tuple #[]) w) := by
  have HB := Lib.hid (Blk.new w 65 #[.string (bs nm), .int .i64 n])
  have HW := Lib.hid (show Below w.heap.size w (w.alloc (.cells #[.string (bs nm), .int .i64 n] 65)) from (Below.refl _ _).alloc (Nat.le_refl _) _)
  have HK := Lib.hid (show Kp B b w _ from Kp.below HW.out h.low)
  have HP := Lib.hid (h.below HW.out)
  have HN := Lib.hid (show w.heap.size ≠ b from by have := h.lt; omega)
  have HI := Lib.hid hn
  unfold cellT at hl
  have HL := Lib.hid hl
  clear hl h hn
  go_enter Tryd.func51, Tryd.ntmps51
  go_upto_region 1 with (fail)
  generalize w.alloc (.cells #[.string (bs nm), .int .i64 n] 65) = w1 at *
  have s0 : w1.cell? ⟨w.heap.size, 0, none⟩ = some (.string (bs nm)) := HB.out.cell 0
  have HS1 := Lib.hid (say_new (w := w1) _ rfl [⟨#[105, 110, 105, 116, 32]⟩, bs nm, ⟨#[32]⟩] #[.string ⟨#[105, 110, 105, 116, 32]⟩, .string (bs nm), .string ⟨#[32]⟩] 3 rfl rfl HP.out (by rw [show cat [⟨#[105, 110, 105, 116, 32]⟩, bs nm, ⟨#[32]⟩] = ([105, 110, 105, 116, 32] ++ (nm ++ [32])) from by simp only [cat, List.map_cons, List.map_nil, List.flatten_cons, List.flatten_nil, by_bs, List.append_nil] <;> rfl]; exact (by have h9 := HL.out; simp only [List.length_append, List.length_cons, List.length_nil] at h9 ⊢; unfold big at *; omega)) (by omega))
  rw [show cat [⟨#[105, 110, 105, 116, 32]⟩, bs nm, ⟨#[32]⟩] = ([105, 110, 105, 116, 32] ++ (nm ++ [32])) from by simp only [cat, List.map_cons, List.map_nil, List.flatten_cons, List.flatten_nil, by_bs, List.append_nil] <;> rfl] at HS1
  go_wp2_with fail
  with_reducible refine HS1.out.mono ?_
  rintro e w2 ⟨rfl, hp2, hk2⟩
  have s1 : w2.cell? ⟨w.heap.size, 1, none⟩ = some (.int .i64 n) := (hk2.blk _ _ _ (by decide) HN.out HB.out).cell 1
  have HP2 := Lib.hid hp2
  have HK2 := Lib.hid (HK.out.trans hk2)
  clear hp2 hk2
  have HA2 := Lib.hid (pgnum_any n HI.out HP2.out (by have h9 := HL.out; simp only [List.length_append, List.length_cons, List.length_nil] at h9 ⊢; unfold big at *; omega))
  go_wp2_with fail
  with_reducible refine HA2.out.mono ?_
  rintro e w3 ⟨rfl, hp3, hk3⟩
  have HP3 := Lib.hid hp3
  have HK3 := Lib.hid (HK2.out.trans hk3)
  clear hp3 hk3
  have HS3 := Lib.hid (say_new (w := w3) _ rfl [⟨#[10]⟩] #[.string ⟨#[10]⟩] 1 rfl rfl HP3.out (by rw [show cat [⟨#[10]⟩] = [10] from by simp only [cat, List.map_cons, List.map_nil, List.flatten_cons, List.flatten_nil, by_bs, List.append_nil] <;> rfl]; exact (by have h9 := HL.out; simp only [List.length_append, List.length_cons, List.length_nil] at h9 ⊢; unfold big at *; omega)) (by omega))
  rw [show cat [⟨#[10]⟩] = [10] from by simp only [cat, List.map_cons, List.map_nil, List.flatten_cons, List.flatten_nil, by_bs, List.append_nil] <;> rfl] at HS3
  go_wp2_with fail
  with_reducible refine HS3.out.mono ?_
  rintro e w4 ⟨rfl, hp4, hk4⟩
  go_wp2_with fail
  go_end0
  refine ⟨rfl, ?_, HK3.out.trans hk4⟩
  simp only [List.append_assoc] at hp4
  exact hp4
set_option maxHeartbeats 6400000 in
theorem thread_pg {B b : Nat} (es : List ST) (ho : okSs es) (m : Int) (hm : m = 0) (l : List UInt8) (v : Value) (w : World) (hv : IsSs (· < B) w v es) (h : Pg B w b m l) (hl : l.length + (threadT es).length ≤ big) :
    Calls Tryd.prog 52 #[.pointer (some ⟨b, 0, none⟩), v] w (Said B b m (l ++ threadT es) (.tuple #[]) w) := by
  obtain ⟨a, c, rfl, hmx, hr⟩ := hv
  have HR := Lib.hid (show RowS (· < B) w a es from hr)
  have HM := Lib.hid hmx
  have HO := Lib.hid ho
  have HZ := Lib.hid (show m = ((2 * 0 : Nat) : Int) by omega)
  have HP := Lib.hid h
  unfold threadT at hl
  have HL := Lib.hid hl
  clear hl h hr hmx ho hm
  go_enter Tryd.func52, Tryd.ntmps52
  have HS1 := Lib.hid (say_new (w := w) _ rfl [⟨#[116, 104, 114, 101, 97, 100, 32]⟩] #[.string ⟨#[116, 104, 114, 101, 97, 100, 32]⟩] 1 rfl rfl HP.out (by rw [show cat [⟨#[116, 104, 114, 101, 97, 100, 32]⟩] = [116, 104, 114, 101, 97, 100, 32] from by simp only [cat, List.map_cons, List.map_nil, List.flatten_cons, List.flatten_nil, by_bs, List.append_nil] <;> rfl]; exact (by have h9 := HL.out; simp only [List.length_append, List.length_cons, List.length_nil] at h9 ⊢; unfold big at *; omega)) (by omega))
  rw [show cat [⟨#[116, 104, 114, 101, 97, 100, 32]⟩] = [116, 104, 114, 101, 97, 100, 32] from by simp only [cat, List.map_cons, List.map_nil, List.flatten_cons, List.flatten_nil, by_bs, List.append_nil] <;> rfl] at HS1
  go_wp2_with fail
  with_reducible refine HS1.out.mono ?_
  rintro e w2 ⟨rfl, hp2, hk2⟩
  have HP2 := Lib.hid hp2
  have HK2 := Lib.hid hk2
  clear hp2 hk2
  have HA2 := Lib.hid (block_any es (fun s hs => pgstm_any _ s (Nat.le_refl _) (okSs_mem HO.out s hs)) HM.out 0 m HZ.out _ a c w2 (lowS HK2.out HR.out) HP2.out (by have h9 := HL.out; simp only [List.length_append, List.length_cons, List.length_nil] at h9 ⊢; unfold big at *; omega))
  go_wp2_with fail
  with_reducible refine HA2.out.mono ?_
  rintro e w3 ⟨rfl, hp3, hk3⟩
  have HP3 := Lib.hid hp3
  have HK3 := Lib.hid (HK2.out.trans hk3)
  clear hp3 hk3
  have HS3 := Lib.hid (say_new (w := w3) _ rfl [⟨#[10]⟩] #[.string ⟨#[10]⟩] 1 rfl rfl HP3.out (by rw [show cat [⟨#[10]⟩] = [10] from by simp only [cat, List.map_cons, List.map_nil, List.flatten_cons, List.flatten_nil, by_bs, List.append_nil] <;> rfl]; exact (by have h9 := HL.out; simp only [List.length_append, List.length_cons, List.length_nil] at h9 ⊢; unfold big at *; omega)) (by omega))
  rw [show cat [⟨#[10]⟩] = [10] from by simp only [cat, List.map_cons, List.map_nil, List.flatten_cons, List.flatten_nil, by_bs, List.append_nil] <;> rfl] at HS3
  go_wp2_with fail
  with_reducible refine HS3.out.mono ?_
  rintro e w4 ⟨rfl, hp4, hk4⟩
  go_wp2_with fail
  go_end0
  refine ⟨rfl, ?_, HK3.out.trans hk4⟩
  simp only [List.append_assoc] at hp4
  exact hp4
end Go.Proofs.YtchokfgffnomoaaDoor.Lx
/-
  What a page tells of a program, as a contract.
-/
namespace Go.Proofs.YtchokfgffnomoaaDoor.Lx
open Go.RowKit
open P (EX CO ST PG)
set_option maxRecDepth 100000
set_option linter.unusedVariables false
set_option linter.unusedSimpArgs false
/-- What stands ahead of a program's inits. -/
def headT (pn : List UInt8) (pvl : Int) : List UInt8 := [108, 105, 116, 109, 117, 115, 32] ++ (pn ++ ([32, 118, 97, 108, 117, 101, 115, 32] ++ (P.xN pvl ++ [10])))
theorem xP_parts (p : PG) : P.xP p = headT p.name p.vals ++ (P.xI p.init ++ (P.xT p.threads ++ (P.xA p.ask ++ ([32] ++ (P.xC p.cond ++ [10]))))) := by
  simp [P.xP, headT]
/-- Its numbers are ints. -/
structure OkP (p : PG) : Prop where
  vals : I64 p.vals
  init : ∀ c ∈ p.init, I64 c.2
  thr : ∀ l ∈ p.threads, okSs l
  cond : okC p.cond
theorem LPg.keep {Q : Nat → Prop} {w w' : World} {v : Value} {p : PG} (hv : LPg Q w v p) (h : ∀ g, Q g → g < w.heap.size → w'.heap[g]? = w.heap[g]?) : LPg Q w' v p := LPg.step (fun g hg hl => ⟨hg, h g hg hl⟩) hv
set_option maxHeartbeats 12800000 in
theorem prog_pg {B b : Nat} (p : PG) (ho : OkP p) (m0 : Int) (hm0 : m0 = 0) (l : List UInt8) (v : Value) (w : World) (hv : LPg (· < B) w v p) (h : Pg B w b m0 l) (hl : l.length + (P.xP p).length ≤ big) :
    Calls Tryd.prog 33 #[.pointer (some ⟨b, 0, none⟩), v] w (Said B b m0 (l ++ P.xP p) (.tuple #[]) w) := by
  have HV := Lib.hid hv
  obtain ⟨vi, vt, o, t, s, n, a, m, c, rfl, ⟨a1, c1, rfl, hm1, hr1⟩, ⟨a2, c2, rfl, hm2, hr2⟩, hlc⟩ := hv
  obtain ⟨pn, pvl, pin, pth, pak, pco⟩ := p
  obtain ⟨ov, oi, oth, oc⟩ := ho
  unfold maxLen at hm1 hm2
  simp only at ov oi oth oc hm1 hm2 hr1 hr2 hlc
  rw [xP_parts] at hl ⊢
  simp only at hl ⊢
  have HR1 := Lib.hid hr1
  have HR2 := Lib.hid hr2
  have HC0 := Lib.hid hlc
  have HOV := Lib.hid ov
  have HOI := Lib.hid oi
  have HOT := Lib.hid oth
  have HOC := Lib.hid oc
  have HM0 := Lib.hid hm0
  have HB1 := Lib.hid (Blk.new w 28 #[.string (bs pn), .int .i64 pvl, .slice a1 pin.length c1, .slice a2 pth.length c2, .int .i64 pak, .int .i64 o, .int .i64 t, .string s, .int .i64 n, .slice a m c])
  have HW := Lib.hid (show Below w.heap.size w (w.alloc (.cells #[.string (bs pn), .int .i64 pvl, .slice a1 pin.length c1, .slice a2 pth.length c2, .int .i64 pak, .int .i64 o, .int .i64 t, .string s, .int .i64 n, .slice a m c] 28)) from (Below.refl _ _).alloc (Nat.le_refl _) _)
  have HK1 := Lib.hid (show Kp B b w _ from Kp.below HW.out h.low)
  have HP1 := Lib.hid (h.below HW.out)
  have HN := Lib.hid (show w.heap.size ≠ b from by have := h.lt; omega)
  unfold headT at hl
  have HL := Lib.hid hl
  clear hl h hr1 hr2 hlc ov oi oth oc hm0
  show Calls Tryd.prog 33 #[.pointer (some ⟨b, 0, none⟩), .agg #[.string (bs pn), .int .i64 pvl, .slice a1 pin.length c1, .slice a2 pth.length c2, .int .i64 pak, .int .i64 o, .int .i64 t, .string s, .int .i64 n, .slice a m c]] w (Said B b m0 (l ++ (headT pn pvl ++ (P.xI pin ++ (P.xT pth ++ (P.xA pak ++ ([32] ++ (P.xC pco ++ [10]))))))) (.tuple #[]) w)
  go_enter Tryd.func33, Tryd.ntmps33
  go_upto_region 1 with (fail)
  generalize w.alloc (.cells #[.string (bs pn), .int .i64 pvl, .slice a1 pin.length c1, .slice a2 pth.length c2, .int .i64 pak, .int .i64 o, .int .i64 t, .string s, .int .i64 n, .slice a m c] 28) = w1 at *
  generalize w.heap.size = A0 at *
  have q0 : w1.cell? ⟨A0, 0, none⟩ = some (.string (bs pn)) := HB1.out.cell 0
  have HS1 := Lib.hid (say_new (w := w1) _ rfl [⟨#[108, 105, 116, 109, 117, 115, 32]⟩, bs pn, ⟨#[32, 118, 97, 108, 117, 101, 115, 32]⟩] #[.string ⟨#[108, 105, 116, 109, 117, 115, 32]⟩, .string (bs pn), .string ⟨#[32, 118, 97, 108, 117, 101, 115, 32]⟩] 3 rfl rfl HP1.out (by rw [show cat [⟨#[108, 105, 116, 109, 117, 115, 32]⟩, bs pn, ⟨#[32, 118, 97, 108, 117, 101, 115, 32]⟩] = ([108, 105, 116, 109, 117, 115, 32] ++ (pn ++ [32, 118, 97, 108, 117, 101, 115, 32])) from by simp only [cat, List.map_cons, List.map_nil, List.flatten_cons, List.flatten_nil, by_bs, List.append_nil] <;> rfl]; exact (by have h9 := HL.out; simp only [List.length_append, List.length_cons, List.length_nil] at h9 ⊢; unfold big at *; omega)) (by omega))
  rw [show cat [⟨#[108, 105, 116, 109, 117, 115, 32]⟩, bs pn, ⟨#[32, 118, 97, 108, 117, 101, 115, 32]⟩] = ([108, 105, 116, 109, 117, 115, 32] ++ (pn ++ [32, 118, 97, 108, 117, 101, 115, 32])) from by simp only [cat, List.map_cons, List.map_nil, List.flatten_cons, List.flatten_nil, by_bs, List.append_nil] <;> rfl] at HS1
  go_wp2_with fail
  with_reducible refine HS1.out.mono ?_
  rintro e w2 ⟨rfl, hp2, hk2⟩
  have HP2 := Lib.hid hp2
  have HK2 := Lib.hid (HK1.out.trans hk2)
  have HB2 := Lib.hid (hk2.blk _ _ _ (by decide) HN.out HB1.out)
  clear hp2 hk2
  have q1 : w2.cell? ⟨A0, 1, none⟩ = some (.int .i64 pvl) := HB2.out.cell 1
  have HA2 := Lib.hid (pgnum_any pvl HOV.out HP2.out (by have h9 := HL.out; simp only [List.length_append, List.length_cons, List.length_nil] at h9 ⊢; unfold big at *; omega))
  go_wp2_with fail
  with_reducible refine HA2.out.mono ?_
  rintro e w3 ⟨rfl, hp3, hk3⟩
  have HP3 := Lib.hid hp3
  have HK3 := Lib.hid (HK2.out.trans hk3)
  have HB3 := Lib.hid (hk3.blk _ _ _ (by decide) HN.out HB2.out)
  clear hp3 hk3
  have HS3 := Lib.hid (say_new (w := w3) _ rfl [⟨#[10]⟩] #[.string ⟨#[10]⟩] 1 rfl rfl HP3.out (by rw [show cat [⟨#[10]⟩] = [10] from by simp only [cat, List.map_cons, List.map_nil, List.flatten_cons, List.flatten_nil, by_bs, List.append_nil] <;> rfl]; exact (by have h9 := HL.out; simp only [List.length_append, List.length_cons, List.length_nil] at h9 ⊢; unfold big at *; omega)) (by omega))
  rw [show cat [⟨#[10]⟩] = [10] from by simp only [cat, List.map_cons, List.map_nil, List.flatten_cons, List.flatten_nil, by_bs, List.append_nil] <;> rfl] at HS3
  go_wp2_with fail
  with_reducible refine HS3.out.mono ?_
  rintro e w4 ⟨rfl, hp4, hk4⟩
  have HP4 := Lib.hid hp4
  have HK4 := Lib.hid (HK3.out.trans hk4)
  have HB4 := Lib.hid (hk4.blk _ _ _ (by decide) HN.out HB3.out)
  clear hp4 hk4
  have q2 : w4.cell? ⟨A0, 2, none⟩ = some (.slice a1 pin.length c1) := HB4.out.cell 2
  have HP4 := Lib.hid (show Pg B w4 b m0 (l ++ headT pn pvl) from by
    have h9 := HP4.out
    simp only [List.append_assoc] at h9
    exact h9)
  go_wp2_with fail
  clear q0 q1 q2
  go_loopw [23] (fun t wr => ∃ j : Nat, t = .int .i64 j ∧ j ≤ pin.length ∧ Pg B wr b m0 ((l ++ headT pn pvl) ++ P.xI (pin.take j)) ∧ Kp B b w4 wr) (fun t _ => pin.length - (intOf t).toNat)
  case atStart => exact ⟨0, rfl, Nat.zero_le _, by simpa [P.xI] using HP4.out, Kp.refl⟩
  case round =>
    obtain ⟨j, rfl, hj, hpg, hkp⟩ := hrel
    have HPG := Lib.hid hpg
    have HKP := Lib.hid hkp
    clear hpg hkp
    by_cases hlt : j < pin.length
    · rcases HR1.out with hz | ⟨ga, oa, hga, hgB, hla⟩
      · rw [hz] at hlt
        simp at hlt
      obtain ⟨e1, he1, ha0, ha1⟩ := LEs.at pin hla j hlt
      subst hga
      have hgl : ga < w.heap.size := World.block_lt_of_cell? w _ ha0
      have r0 := ((HK4.out.trans HKP.out).bel.cell (p := ⟨ga, _, none⟩) hgB).trans ha0
      have r1 := ((HK4.out.trans HKP.out).bel.cell (p := ⟨ga, _, none⟩) hgB).trans ha1
      have HTK := Lib.hid (pxI_take he1)
      have hle := pxI_le (cs := pin) (j + 1)
      rw [HTK.out, List.length_append] at hle
      have HLE := Lib.hid hle
      have HI := Lib.hid (HOI.out e1 (List.mem_of_getElem? he1))
      obtain ⟨el, en⟩ := e1
      simp only at r0 r1 HI
      have p1 : (0 : Int) ≤ (j : Int) := by omega
      have p2 : (j : Int) < (pin.length : Int) := by omega
      have HWX := Lib.hid (show Below wr.heap.size wr (wr.alloc (.cells #[.string (bs el), .int .i64 en] 65)) from (Below.refl _ _).alloc (Nat.le_refl _) _)
      have HPX := Lib.hid (HPG.out.below HWX.out)
      have HKX := Lib.hid (HKP.out.trans (Kp.below HWX.out HPG.out.low))
      have HC := Lib.hid (cell_pg el en HI.out m0 _ _ HPX.out (by
        have h9 := HL.out
        have h8 := HLE.out
        unfold headT
        simp only [List.length_append, List.length_cons, List.length_nil] at h9 ⊢
        omega))
      clear hla ha0 ha1 he1 hle hgl
      go_wp2_with fail
      with_reducible refine HC.out.mono ?_
      rintro e w5 ⟨rfl, hp5, hk5⟩
      go_wp2_with fail
      go_roundw
      case rel => exact ⟨j + 1, by go_num, by omega, by rw [HTK.out, ← List.append_assoc]; exact hp5, HKX.out.trans hk5⟩
      case measure => simp [intOf]; omega
    · have hd1 : decide (j < pin.length) = false := by simpa using hlt
      have hd2 : decide ((j : Int) < (pin.length : Int)) = false := by simpa using hlt
      obtain rfl : j = pin.length := by omega
      have hpe := HPG.out
      rw [List.take_length] at hpe
      have HPE := Lib.hid hpe
      have HK5 := Lib.hid (HK4.out.trans HKP.out)
      have HB5 := Lib.hid (HKP.out.blk _ _ _ (by decide) HN.out HB4.out)
      have q3 : wr.cell? ⟨A0, 3, none⟩ = some (.slice a2 pth.length c2) := HB5.out.cell 3
      clear hpe HPG HKP hlt hj
      go_wp2_with fail
      clear hd1 hd2 q3
      generalize wr = wq at *
      go_loopw [34] (fun t wr => ∃ k : Nat, t = .int .i64 k ∧ k ≤ pth.length ∧ Pg B wr b m0 (((l ++ headT pn pvl) ++ P.xI pin) ++ P.xT (pth.take k)) ∧ Kp B b wq wr) (fun t _ => pth.length - (intOf t).toNat)
      case atStart => exact ⟨0, rfl, Nat.zero_le _, by simpa [P.xT] using HPE.out, Kp.refl⟩
      case round =>
        obtain ⟨k, rfl, hk, hpg, hkp⟩ := hrel
        have HPG := Lib.hid hpg
        have HKP := Lib.hid hkp
        clear hpg hkp
        by_cases hlt : k < pth.length
        · rcases HR2.out with hz | ⟨ga, oa, hga, hgB, hla⟩
          · rw [hz] at hlt
            simp at hlt
          obtain ⟨e1, vv, he1, ha0, hss⟩ := LTs.at pth hla k hlt
          subst hga
          have r0 := ((HK5.out.trans HKP.out).bel.cell (p := ⟨ga, _, none⟩) hgB).trans ha0
          have HTK := Lib.hid (pxT_take he1)
          have hle := pxT_le (ls := pth) (k + 1)
          rw [HTK.out, List.length_append] at hle
          have HLE := Lib.hid hle
          have HO1 := Lib.hid (HOT.out e1 (List.mem_of_getElem? he1))
          have HIS := Lib.hid (show IsSs (· < B) wr vv e1 from hss.step (fun g hg hl => ⟨hg, (HK5.out.trans HKP.out).bel.block g hg⟩))
          have p1 : (0 : Int) ≤ (k : Int) := by omega
          have p2 : (k : Int) < (pth.length : Int) := by omega
          have HC := Lib.hid (thread_pg e1 HO1.out m0 HM0.out _ vv wr HIS.out HPG.out (by
            have h9 := HL.out
            have h8 := HLE.out
            unfold headT
            simp only [List.length_append, List.length_cons, List.length_nil] at h9 ⊢
            omega))
          obtain ⟨av, cv, rfl, _⟩ := hss
          clear hla ha0 he1 hle
          go_wp2_with fail
          with_reducible refine HC.out.mono ?_
          rintro e w5 ⟨rfl, hp5, hk5⟩
          go_wp2_with fail
          go_roundw
          case rel => exact ⟨k + 1, by go_num, by omega, by rw [HTK.out, ← List.append_assoc]; exact hp5, HKP.out.trans hk5⟩
          case measure => simp [intOf]; omega
        · have hd1 : decide (k < pth.length) = false := by simpa using hlt
          have hd2 : decide ((k : Int) < (pth.length : Int)) = false := by simpa using hlt
          obtain rfl : k = pth.length := by omega
          have hpe := HPG.out
          rw [List.take_length] at hpe
          have HP6 := Lib.hid hpe
          have HK6 := Lib.hid (HK5.out.trans HKP.out)
          have HB6 := Lib.hid (HKP.out.blk _ _ _ (by decide) HN.out HB5.out)
          have q4 : wr.cell? ⟨A0, 4, none⟩ = some (.int .i64 pak) := HB6.out.cell 4
          clear hpe HPG HKP hlt hk HPE
          generalize wr = w6 at *
          have HL6 := Lib.hid (show l.length + ((headT pn pvl).length + ((P.xI pin).length + ((P.xT pth).length + ((P.xA pak).length + (1 + ((P.xC pco).length + 1)))))) ≤ big from by
            have h9 := HL.out
            unfold headT
            simp only [List.length_append, List.length_cons, List.length_nil] at h9 ⊢
            omega)
          generalize headT pn pvl = HT at *
          go_wp2_with fail
          with_reducible refine (asks_any pak w6).mono ?_
          rintro e w9 ⟨rfl, rfl⟩
          have HS6 := Lib.hid (say_new (w := w6) _ rfl [bs (P.xA pak), ⟨#[32]⟩] #[.string (bs (P.xA pak)), .string ⟨#[32]⟩] 2 rfl rfl HP6.out (by
            rw [show cat [bs (P.xA pak), ⟨#[32]⟩] = (P.xA pak ++ [32]) from by simp only [cat, List.map_cons, List.map_nil, List.flatten_cons, List.flatten_nil, by_bs, List.append_nil] <;> rfl]
            have h9 := HL6.out
            unfold big at h9
            simp only [List.length_append, List.length_cons, List.length_nil]
            omega) (by omega))
          rw [show cat [bs (P.xA pak), ⟨#[32]⟩] = (P.xA pak ++ [32]) from by simp only [cat, List.map_cons, List.map_nil, List.flatten_cons, List.flatten_nil, by_bs, List.append_nil] <;> rfl] at HS6
          clear hd1 hd2 q4
          go_wp2_with fail
          with_reducible refine HS6.out.mono ?_
          rintro e w7 ⟨rfl, hp7, hk7⟩
          have HP7 := Lib.hid hp7
          have HK7 := Lib.hid (HK6.out.trans hk7)
          have HB7 := Lib.hid (hk7.blk _ _ _ (by decide) HN.out HB6.out)
          clear hp7 hk7
          have q5 : w7.cell? ⟨A0, 5, none⟩ = some (.int .i64 o) := HB7.out.cell 5
          have q6 : w7.cell? ⟨A0, 6, none⟩ = some (.int .i64 t) := HB7.out.cell 6
          have q7 : w7.cell? ⟨A0, 7, none⟩ = some (.string s) := HB7.out.cell 7
          have q8 : w7.cell? ⟨A0, 8, none⟩ = some (.int .i64 n) := HB7.out.cell 8
          have q9 : w7.cell? ⟨A0, 9, none⟩ = some (.slice a m c) := HB7.out.cell 9
          have HC7 := Lib.hid (pgcond_any _ pco (Nat.le_refl _) HOC.out m0 _ _ w7 (HC0.out.keep (fun g hg hl => HK7.out.bel.block g hg)) HP7.out (by
            have h9 := HL6.out
            simp only [List.length_append, List.length_cons, List.length_nil]
            omega))
          go_wp2_with fail
          with_reducible refine HC7.out.mono ?_
          rintro e w8 ⟨rfl, hp8, hk8⟩
          clear q5 q6 q7 q8 q9
          have HS8 := Lib.hid (say_new (w := w8) _ rfl [⟨#[10]⟩] #[.string ⟨#[10]⟩] 1 rfl rfl hp8 (by
            have h9 := HL6.out
            unfold big at h9
            simp only [List.length_append, List.length_cons, List.length_nil]
            show _ + 1 ≤ _
            omega) (by omega))
          rw [show cat [⟨#[10]⟩] = [10] from rfl] at HS8
          go_wp2_with fail
          with_reducible refine HS8.out.mono ?_
          rintro e wx ⟨rfl, hpx, hkx⟩
          go_wp2_with fail
          go_end0
          refine ⟨rfl, ?_, HK7.out.trans (hk8.trans hkx)⟩
          simp only [List.append_assoc] at hpx
          exact hpx
end Go.Proofs.YtchokfgffnomoaaDoor.Lx
/-
  What show.Prog, show.Expr and show.Cond tell, as contracts.
-/
namespace Go.Proofs.YtchokfgffnomoaaDoor.Lx
open Go.RowKit
open P (EX CO ST PG)
set_option maxRecDepth 100000
set_option linter.unusedVariables false
set_option linter.unusedSimpArgs false
/-- A text is told, and nothing that was there turns. -/
def ShowTo (t : List UInt8) (w : World) (e : Ending) (w' : World) : Prop := e = .returned (.string (bs t)) ∧ Below w.heap.size w w'
theorem Tb.up {B B' : Nat} {w : World} (h : Tb B w) (hB : B ≤ B') : Tb B' w := fun w2 h2 => h w2 (h2.mono hB)
theorem Tb.from {B : Nat} {w w' : World} (h : Tb B w) (hb : Below B w w') (hB : B ≤ w'.heap.size) : Tb w'.heap.size w' := (h.step hb).up hB
/-- A page that was just made. -/
theorem pg_new {B : Nat} {w : World} (h : Tb B w) (hB : B ≤ w.heap.size) : Pg B (w.alloc (.cells #[.pointer none, .slice none 0 0, .int .i64 0] 75)) w.heap.size 0 [] :=
  ⟨hB, h.step ((Below.refl B w).alloc hB _), .pointer none, .slice none 0 0, .inl rfl, Blk.new w 75 #[.pointer none, .slice none 0 0, .int .i64 0], rfl, .inl ⟨rfl, rfl⟩⟩
set_option maxHeartbeats 6400000 in
theorem show_prog (p : PG) (ho : OkP p) (hl : (P.xP p).length ≤ big) {Q : Nat → Prop} (v : Value) (w : World) (hv : LPg Q w v p) (ht : Tb w.heap.size w) :
    Calls Tryd.prog 12 #[v] w (ShowTo (P.xP p) w) := by
  have hv := LPg.step (Q' := (· < w.heap.size)) (fun g hg hl => ⟨hl, rfl⟩) hv
  have hv9 := hv
  obtain ⟨vi, vt, o, t, s, n, a, m, c, rfl, ⟨a1, c1, rfl, hm1, hr1⟩, ⟨a2, c2, rfl, hm2, hr2⟩, hlc⟩ := hv
  clear hm1 hr1 hm2 hr2 hlc
  have hv := hv9
  clear hv9
  have HB := Lib.hid (Blk.new w 28 #[.string (bs p.name), .int .i64 p.vals, .slice a1 p.init.length c1, .slice a2 p.threads.length c2, .int .i64 p.ask, .int .i64 o, .int .i64 t, .string s, .int .i64 n, .slice a m c])
  have HW := Lib.hid (show Below w.heap.size w (w.alloc (.cells #[.string (bs p.name), .int .i64 p.vals, .slice a1 p.init.length c1, .slice a2 p.threads.length c2, .int .i64 p.ask, .int .i64 o, .int .i64 t, .string s, .int .i64 n, .slice a m c] 28)) from (Below.refl _ _).alloc (Nat.le_refl _) _)
  have HT := Lib.hid (ht.step HW.out)
  have HS := Lib.hid (show w.heap.size ≤ (w.alloc (.cells #[.string (bs p.name), .int .i64 p.vals, .slice a1 p.init.length c1, .slice a2 p.threads.length c2, .int .i64 p.ask, .int .i64 o, .int .i64 t, .string s, .int .i64 n, .slice a m c] 28)).heap.size by simp)
  have HV := Lib.hid (hv.keep (fun g hg hl => HW.out.block g hl))
  have HN := Lib.hid (show P.xP p ≠ [] from by rw [xP_parts]; simp [headT])
  have HL := Lib.hid hl
  have HO := Lib.hid ho
  clear ht hv hl ho
  go_enter Tryd.func12, Tryd.ntmps12
  go_upto_region 1 with (fail)
  generalize w.alloc (.cells #[.string (bs p.name), .int .i64 p.vals, .slice a1 p.init.length c1, .slice a2 p.threads.length c2, .int .i64 p.ask, .int .i64 o, .int .i64 t, .string s, .int .i64 n, .slice a m c] 28) = w1 at *
  generalize hBB : w.heap.size = B0 at *
  have HBB := Lib.hid hBB
  clear hBB
  have HP := Lib.hid (pg_new HT.out HS.out)
  have HX := Lib.hid (show Below w1.heap.size w1 (w1.alloc (.cells #[.pointer none, .slice none 0 0, .int .i64 0] 75)) from (Below.refl _ _).alloc (Nat.le_refl _) _)
  have HB2 := Lib.hid (HB.out.live' HX.out)
  have HV2 := Lib.hid (HV.out.keep (fun g hg hl => HX.out.block g hl))
  go_upto_region 2 with (fail)
  generalize w1.alloc (.cells #[.pointer none, .slice none 0 0, .int .i64 0] 75) = w2 at *
  generalize w1.heap.size = b at *
  have q0 : w2.cell? ⟨B0, 0, none⟩ = some (.string (bs p.name)) := HB2.out.cell 0
  have q1 : w2.cell? ⟨B0, 1, none⟩ = some (.int .i64 p.vals) := HB2.out.cell 1
  have q2 : w2.cell? ⟨B0, 2, none⟩ = some (.slice a1 p.init.length c1) := HB2.out.cell 2
  have q3 : w2.cell? ⟨B0, 3, none⟩ = some (.slice a2 p.threads.length c2) := HB2.out.cell 3
  have q4 : w2.cell? ⟨B0, 4, none⟩ = some (.int .i64 p.ask) := HB2.out.cell 4
  have q5 : w2.cell? ⟨B0, 5, none⟩ = some (.int .i64 o) := HB2.out.cell 5
  have q6 : w2.cell? ⟨B0, 6, none⟩ = some (.int .i64 t) := HB2.out.cell 6
  have q7 : w2.cell? ⟨B0, 7, none⟩ = some (.string s) := HB2.out.cell 7
  have q8 : w2.cell? ⟨B0, 8, none⟩ = some (.int .i64 n) := HB2.out.cell 8
  have q9 : w2.cell? ⟨B0, 9, none⟩ = some (.slice a m c) := HB2.out.cell 9
  have HC := Lib.hid (prog_pg (B := B0) p HO.out 0 rfl [] _ w2 HV2.out HP.out (by have := HL.out; simpa using this))
  go_wp2_with fail
  with_reducible refine HC.out.mono ?_
  rintro e w3 ⟨rfl, hp3, hk3⟩
  have HR := Lib.hid (string_any hp3 (by simpa using HN.out))
  go_wp2_with fail
  with_reducible refine HR.out.mono ?_
  rintro e w4 ⟨rfl, hb4⟩
  go_wp2_with fail
  go_ret
  refine ⟨rfl, ?_⟩
  rw [HBB.out]
  exact (HW.out.trans (HX.out.mono HS.out)).trans (hk3.bel.trans hb4)
set_option maxHeartbeats 6400000 in
theorem show_expr (x : EX) (ho : okX x) (hne : P.xE x ≠ []) (hl : (P.xE x).length ≤ big) {Q : Nat → Prop} (v : Value) (w : World) (hv : LX Q w v x) (ht : Tb w.heap.size w) :
    Calls Tryd.prog 14 #[v] w (ShowTo (P.xE x) w) := by
  have hv := LX.mono (Q' := (· < w.heap.size)) (fun g hg hl => hl) x hv
  obtain ⟨op, n, nm, kids⟩ := x
  have hv9 := hv
  unfold LX at hv
  obtain ⟨a, cap, rfl, hm, hc⟩ := hv
  clear hm hc
  have hv := hv9
  clear hv9
  have HB := Lib.hid (Blk.new w 31 #[.int .i64 op, .int .i64 n, .string (bs nm), .slice a kids.length cap])
  have HW := Lib.hid (show Below w.heap.size w (w.alloc (.cells #[.int .i64 op, .int .i64 n, .string (bs nm), .slice a kids.length cap] 31)) from (Below.refl _ _).alloc (Nat.le_refl _) _)
  have HT := Lib.hid (ht.step HW.out)
  have HS := Lib.hid (show w.heap.size ≤ (w.alloc (.cells #[.int .i64 op, .int .i64 n, .string (bs nm), .slice a kids.length cap] 31)).heap.size by simp)
  have HV := Lib.hid (hv.keep (fun g hg hl => HW.out.block g hl))
  have HN := Lib.hid (hne)
  have HL := Lib.hid hl
  have HO := Lib.hid ho
  clear ht hv hl ho
  go_enter Tryd.func14, Tryd.ntmps14
  go_upto_region 1 with (fail)
  generalize w.alloc (.cells #[.int .i64 op, .int .i64 n, .string (bs nm), .slice a kids.length cap] 31) = w1 at *
  generalize hBB : w.heap.size = B0 at *
  have HBB := Lib.hid hBB
  clear hBB
  have HP := Lib.hid (pg_new HT.out HS.out)
  have HX := Lib.hid (show Below w1.heap.size w1 (w1.alloc (.cells #[.pointer none, .slice none 0 0, .int .i64 0] 75)) from (Below.refl _ _).alloc (Nat.le_refl _) _)
  have HB2 := Lib.hid (HB.out.live' HX.out)
  have HV2 := Lib.hid (HV.out.keep (fun g hg hl => HX.out.block g hl))
  go_upto_region 2 with (fail)
  generalize w1.alloc (.cells #[.pointer none, .slice none 0 0, .int .i64 0] 75) = w2 at *
  generalize w1.heap.size = b at *
  have q0 : w2.cell? ⟨B0, 0, none⟩ = some (.int .i64 op) := HB2.out.cell 0
  have q1 : w2.cell? ⟨B0, 1, none⟩ = some (.int .i64 n) := HB2.out.cell 1
  have q2 : w2.cell? ⟨B0, 2, none⟩ = some (.string (bs nm)) := HB2.out.cell 2
  have q3 : w2.cell? ⟨B0, 3, none⟩ = some (.slice a kids.length cap) := HB2.out.cell 3
  have HC := Lib.hid (pgexpr_any (B := B0) _ _ (Nat.le_refl _) HO.out 0 [] _ w2 HV2.out HP.out (by have := HL.out; simpa using this))
  go_wp2_with fail
  with_reducible refine HC.out.mono ?_
  rintro e w3 ⟨rfl, hp3, hk3⟩
  have HR := Lib.hid (string_any hp3 (by simpa using HN.out))
  go_wp2_with fail
  with_reducible refine HR.out.mono ?_
  rintro e w4 ⟨rfl, hb4⟩
  go_wp2_with fail
  go_ret
  refine ⟨rfl, ?_⟩
  rw [HBB.out]
  exact (HW.out.trans (HX.out.mono HS.out)).trans (hk3.bel.trans hb4)
set_option maxHeartbeats 6400000 in
theorem show_cond (x : CO) (ho : okC x) (hne : P.xC x ≠ []) (hl : (P.xC x).length ≤ big) {Q : Nat → Prop} (v : Value) (w : World) (hv : LC Q w v x) (ht : Tb w.heap.size w) :
    Calls Tryd.prog 16 #[v] w (ShowTo (P.xC x) w) := by
  have hv := LC.mono (Q' := (· < w.heap.size)) (fun g hg hl => hl) x hv
  obtain ⟨op, th, nm, n, kids⟩ := x
  have hv9 := hv
  unfold LC at hv
  obtain ⟨a, cap, rfl, hm, hc⟩ := hv
  clear hm hc
  have hv := hv9
  clear hv9
  have HB := Lib.hid (Blk.new w 26 #[.int .i64 op, .int .i64 th, .string (bs nm), .int .i64 n, .slice a kids.length cap])
  have HW := Lib.hid (show Below w.heap.size w (w.alloc (.cells #[.int .i64 op, .int .i64 th, .string (bs nm), .int .i64 n, .slice a kids.length cap] 26)) from (Below.refl _ _).alloc (Nat.le_refl _) _)
  have HT := Lib.hid (ht.step HW.out)
  have HS := Lib.hid (show w.heap.size ≤ (w.alloc (.cells #[.int .i64 op, .int .i64 th, .string (bs nm), .int .i64 n, .slice a kids.length cap] 26)).heap.size by simp)
  have HV := Lib.hid (hv.keep (fun g hg hl => HW.out.block g hl))
  have HN := Lib.hid (hne)
  have HL := Lib.hid hl
  have HO := Lib.hid ho
  clear ht hv hl ho
  go_enter Tryd.func16, Tryd.ntmps16
  go_upto_region 1 with (fail)
  generalize w.alloc (.cells #[.int .i64 op, .int .i64 th, .string (bs nm), .int .i64 n, .slice a kids.length cap] 26) = w1 at *
  generalize hBB : w.heap.size = B0 at *
  have HBB := Lib.hid hBB
  clear hBB
  have HP := Lib.hid (pg_new HT.out HS.out)
  have HX := Lib.hid (show Below w1.heap.size w1 (w1.alloc (.cells #[.pointer none, .slice none 0 0, .int .i64 0] 75)) from (Below.refl _ _).alloc (Nat.le_refl _) _)
  have HB2 := Lib.hid (HB.out.live' HX.out)
  have HV2 := Lib.hid (HV.out.keep (fun g hg hl => HX.out.block g hl))
  go_upto_region 2 with (fail)
  generalize w1.alloc (.cells #[.pointer none, .slice none 0 0, .int .i64 0] 75) = w2 at *
  generalize w1.heap.size = b at *
  have q0 : w2.cell? ⟨B0, 0, none⟩ = some (.int .i64 op) := HB2.out.cell 0
  have q1 : w2.cell? ⟨B0, 1, none⟩ = some (.int .i64 th) := HB2.out.cell 1
  have q2 : w2.cell? ⟨B0, 2, none⟩ = some (.string (bs nm)) := HB2.out.cell 2
  have q3 : w2.cell? ⟨B0, 3, none⟩ = some (.int .i64 n) := HB2.out.cell 3
  have q4 : w2.cell? ⟨B0, 4, none⟩ = some (.slice a kids.length cap) := HB2.out.cell 4
  have HC := Lib.hid (pgcond_any (B := B0) _ _ (Nat.le_refl _) HO.out 0 [] _ w2 HV2.out HP.out (by have := HL.out; simpa using this))
  go_wp2_with fail
  with_reducible refine HC.out.mono ?_
  rintro e w3 ⟨rfl, hp3, hk3⟩
  have HR := Lib.hid (string_any hp3 (by simpa using HN.out))
  go_wp2_with fail
  with_reducible refine HR.out.mono ?_
  rintro e w4 ⟨rfl, hb4⟩
  go_wp2_with fail
  go_ret
  refine ⟨rfl, ?_⟩
  rw [HBB.out]
  exact (HW.out.trans (HX.out.mono HS.out)).trans (hk3.bel.trans hb4)
end Go.Proofs.YtchokfgffnomoaaDoor.Lx
