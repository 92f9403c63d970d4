/-
  What eval.Expr and eval.True tell of any expression over any registers, as contracts.
-/
import Derived.Test.YtlgnagmmljdkiacEVal
namespace Go.Proofs.Ytlgnagmmljdkiac.Lx
open Go.RowKit
open P (EX ev ev2 plI jn)
set_option maxRecDepth 100000
set_option linter.unusedVariables false
set_option linter.unusedSimpArgs false
/-- What expr tells by so many steps. -/
def ExIn (rs : List (List UInt8)) (vs : List Int) (n : Int) (m : Nat) : Prop := ∀ (e : EX) (w : World) (ar av : Option Addr) (cr cv : Nat) (v : Value), EvIn w ar av cr cv rs vs n → LX (fun _ => True) w v e → wfX e → Calls Try.prog 10 #[.agg #[.slice ar rs.length cr, .slice av vs.length cv, .int .i64 n], v, .int .i64 (m : Nat)] w (EvTo (ev rs vs n m e) w)

set_option maxHeartbeats 1600000 in
theorem evplus_any (m : Nat) (hm : m ≤ 100) {rs : List (List UInt8)} {vs : List Int} {n : Int} (IH : ExIn rs vs n m) (w : World) (ar av : Option Addr) (cr cv : Nat) (h : EvIn w ar av cr cv rs vs n) (k : Int) (s : List UInt8) (ks : List EX) (hks : wfXs ks) (v : Value) (z : Int) (hz : z = (m : Int) + 1) (hv : LX (fun _ => True) w v (.mk 3 k s ks)) :
    Calls Try.prog 14 #[.agg #[.slice ar rs.length cr, .slice av vs.length cv, .int .i64 n], v, .int .i64 z] w (EvTo (ev rs vs n (m + 1) (.mk 3 k s ks)) w) := by
  have hv0 := hv
  unfold LX at hv0
  obtain ⟨a, cap, rfl, _, _⟩ := hv0
  have hb := two_below w (.cells #[.slice ar rs.length cr, .slice av vs.length cv, .int .i64 n] 42) (.cells #[.int .i64 3, .int .i64 k, .string (bs s), .slice a ks.length cap] 27)
  have HA := Lib.hid (both_any 21 3 enters_jadd (by omega) m hm (joins_add ⟨h.n2, h.n4⟩) IH _ ar av cr cv (h.below hb) k s ks hks _ z hz (hv.low hb))
  have HB := Lib.hid hb
  clear h hv hb hz IH
  generalize ev rs vs n (m + 1) (.mk 3 k s ks) = R at *
  generalize bs s = S at *
  go_enter Try.func14, Try.ntmps14
  go_wp2_with fail
  with_reducible refine HA.out.mono ?_
  rintro e w2 ⟨rfl, hb2⟩
  unfold evR
  go_wp2_with fail
  go_ret2
  exact ⟨rfl, HB.out.trans (hb2.mono HB.out.size)⟩
set_option maxHeartbeats 1600000 in
theorem evminus_any (m : Nat) (hm : m ≤ 100) {rs : List (List UInt8)} {vs : List Int} {n : Int} (IH : ExIn rs vs n m) (w : World) (ar av : Option Addr) (cr cv : Nat) (h : EvIn w ar av cr cv rs vs n) (k : Int) (s : List UInt8) (ks : List EX) (hks : wfXs ks) (v : Value) (z : Int) (hz : z = (m : Int) + 1) (hv : LX (fun _ => True) w v (.mk 4 k s ks)) :
    Calls Try.prog 15 #[.agg #[.slice ar rs.length cr, .slice av vs.length cv, .int .i64 n], v, .int .i64 z] w (EvTo (ev rs vs n (m + 1) (.mk 4 k s ks)) w) := by
  have hv0 := hv
  unfold LX at hv0
  obtain ⟨a, cap, rfl, _, _⟩ := hv0
  have hb := two_below w (.cells #[.slice ar rs.length cr, .slice av vs.length cv, .int .i64 n] 42) (.cells #[.int .i64 4, .int .i64 k, .string (bs s), .slice a ks.length cap] 27)
  have HA := Lib.hid (both_any 22 4 enters_jsub (by omega) m hm (joins_sub ⟨h.n2, h.n4⟩) IH _ ar av cr cv (h.below hb) k s ks hks _ z hz (hv.low hb))
  have HB := Lib.hid hb
  clear h hv hb hz IH
  generalize ev rs vs n (m + 1) (.mk 4 k s ks) = R at *
  generalize bs s = S at *
  go_enter Try.func15, Try.ntmps15
  go_wp2_with fail
  with_reducible refine HA.out.mono ?_
  rintro e w2 ⟨rfl, hb2⟩
  unfold evR
  go_wp2_with fail
  go_ret2
  exact ⟨rfl, HB.out.trans (hb2.mono HB.out.size)⟩
set_option maxHeartbeats 1600000 in
theorem eveq_any (m : Nat) (hm : m ≤ 100) {rs : List (List UInt8)} {vs : List Int} {n : Int} (IH : ExIn rs vs n m) (w : World) (ar av : Option Addr) (cr cv : Nat) (h : EvIn w ar av cr cv rs vs n) (k : Int) (s : List UInt8) (ks : List EX) (hks : wfXs ks) (v : Value) (z : Int) (hz : z = (m : Int) + 1) (hv : LX (fun _ => True) w v (.mk 5 k s ks)) :
    Calls Try.prog 16 #[.agg #[.slice ar rs.length cr, .slice av vs.length cv, .int .i64 n], v, .int .i64 z] w (EvTo (ev rs vs n (m + 1) (.mk 5 k s ks)) w) := by
  have hv0 := hv
  unfold LX at hv0
  obtain ⟨a, cap, rfl, _, _⟩ := hv0
  have hb := two_below w (.cells #[.slice ar rs.length cr, .slice av vs.length cv, .int .i64 n] 42) (.cells #[.int .i64 5, .int .i64 k, .string (bs s), .slice a ks.length cap] 27)
  have HA := Lib.hid (both_any 23 5 enters_jeq (by omega) m hm (joins_eq ⟨h.n2, h.n4⟩) IH _ ar av cr cv (h.below hb) k s ks hks _ z hz (hv.low hb))
  have HB := Lib.hid hb
  clear h hv hb hz IH
  generalize ev rs vs n (m + 1) (.mk 5 k s ks) = R at *
  generalize bs s = S at *
  go_enter Try.func16, Try.ntmps16
  go_wp2_with fail
  with_reducible refine HA.out.mono ?_
  rintro e w2 ⟨rfl, hb2⟩
  unfold evR
  go_wp2_with fail
  go_ret2
  exact ⟨rfl, HB.out.trans (hb2.mono HB.out.size)⟩
set_option maxHeartbeats 1600000 in
theorem evless_any (m : Nat) (hm : m ≤ 100) {rs : List (List UInt8)} {vs : List Int} {n : Int} (IH : ExIn rs vs n m) (w : World) (ar av : Option Addr) (cr cv : Nat) (h : EvIn w ar av cr cv rs vs n) (k : Int) (s : List UInt8) (ks : List EX) (hks : wfXs ks) (v : Value) (z : Int) (hz : z = (m : Int) + 1) (hv : LX (fun _ => True) w v (.mk 6 k s ks)) :
    Calls Try.prog 17 #[.agg #[.slice ar rs.length cr, .slice av vs.length cv, .int .i64 n], v, .int .i64 z] w (EvTo (ev rs vs n (m + 1) (.mk 6 k s ks)) w) := by
  have hv0 := hv
  unfold LX at hv0
  obtain ⟨a, cap, rfl, _, _⟩ := hv0
  have hb := two_below w (.cells #[.slice ar rs.length cr, .slice av vs.length cv, .int .i64 n] 42) (.cells #[.int .i64 6, .int .i64 k, .string (bs s), .slice a ks.length cap] 27)
  have HA := Lib.hid (both_any 25 6 enters_jless (by omega) m hm (joins_less ⟨h.n2, h.n4⟩) IH _ ar av cr cv (h.below hb) k s ks hks _ z hz (hv.low hb))
  have HB := Lib.hid hb
  clear h hv hb hz IH
  generalize ev rs vs n (m + 1) (.mk 6 k s ks) = R at *
  generalize bs s = S at *
  go_enter Try.func17, Try.ntmps17
  go_wp2_with fail
  with_reducible refine HA.out.mono ?_
  rintro e w2 ⟨rfl, hb2⟩
  unfold evR
  go_wp2_with fail
  go_ret2
  exact ⟨rfl, HB.out.trans (hb2.mono HB.out.size)⟩
/-- What reckons expressions of that Op. -/
def fe (op : Int) : Value := if op = 1 then .func (.func 12) #[] #[] else if op = 2 then .func (.func 13) #[] #[] else if op = 3 then .func (.func 14) #[] #[] else if op = 4 then .func (.func 15) #[] #[] else if op = 5 then .func (.func 16) #[] #[] else if op = 6 then .func (.func 17) #[] #[] else .nilFunc
set_option maxHeartbeats 1600000 in
theorem reckonOf_any (op : Int) (w : World) : Calls Try.prog 11 #[.int .i64 op] w (fun e w' => e = .returned (fe op) ∧ w = w') := by
  by_cases h1 : op = 1
  · subst h1
    show Calls Try.prog 11 #[.int .i64 1] w (fun e w' => e = .returned (.func (.func 12) #[] #[]) ∧ w = w')
    go_enter Try.func11, Try.ntmps11
    go_wp2_with fail
    go_ret
    exact ⟨rfl, rfl⟩
  by_cases h2 : op = 2
  · subst h2
    show Calls Try.prog 11 #[.int .i64 2] w (fun e w' => e = .returned (.func (.func 13) #[] #[]) ∧ w = w')
    go_enter Try.func11, Try.ntmps11
    go_wp2_with fail
    go_ret
    exact ⟨rfl, rfl⟩
  by_cases h3 : op = 3
  · subst h3
    show Calls Try.prog 11 #[.int .i64 3] w (fun e w' => e = .returned (.func (.func 14) #[] #[]) ∧ w = w')
    go_enter Try.func11, Try.ntmps11
    go_wp2_with fail
    go_ret
    exact ⟨rfl, rfl⟩
  by_cases h4 : op = 4
  · subst h4
    show Calls Try.prog 11 #[.int .i64 4] w (fun e w' => e = .returned (.func (.func 15) #[] #[]) ∧ w = w')
    go_enter Try.func11, Try.ntmps11
    go_wp2_with fail
    go_ret
    exact ⟨rfl, rfl⟩
  by_cases h5 : op = 5
  · subst h5
    show Calls Try.prog 11 #[.int .i64 5] w (fun e w' => e = .returned (.func (.func 16) #[] #[]) ∧ w = w')
    go_enter Try.func11, Try.ntmps11
    go_wp2_with fail
    go_ret
    exact ⟨rfl, rfl⟩
  by_cases h6 : op = 6
  · subst h6
    show Calls Try.prog 11 #[.int .i64 6] w (fun e w' => e = .returned (.func (.func 17) #[] #[]) ∧ w = w')
    go_enter Try.func11, Try.ntmps11
    go_wp2_with fail
    go_ret
    exact ⟨rfl, rfl⟩
  have e1 : (op == 1) = false := by simp; omega
  have e2 : (op == 2) = false := by simp; omega
  have e3 : (op == 3) = false := by simp; omega
  have e4 : (op == 4) = false := by simp; omega
  have e5 : (op == 5) = false := by simp; omega
  have e6 : (op == 6) = false := by simp; omega
  have hf : fe op = .nilFunc := by simp [fe, h1, h2, h3, h4, h5, h6]
  rw [hf]
  clear hf
  go_enter Try.func11, Try.ntmps11
  go_wp2_with fail
  go_ret
  exact ⟨rfl, rfl⟩
set_option maxHeartbeats 12800000 in
theorem evexpr_any {rs : List (List UInt8)} {vs : List Int} {n : Int} : ∀ m : Nat, m ≤ 100 → ExIn rs vs n m
  | 0, _, .mk op k s ks, w, ar, av, cr, cv, v, h, hv, hw => by
    unfold LX at hv
    obtain ⟨a, cap, rfl, _, _⟩ := hv
    have HB := Lib.hid (two_below w (.cells #[.slice ar rs.length cr, .slice av vs.length cv, .int .i64 n] 42) (.cells #[.int .i64 op, .int .i64 k, .string (bs s), .slice a ks.length cap] 27))
    clear h hw
    generalize bs s = S at *
    show Calls Try.prog 10 #[.agg #[.slice ar rs.length cr, .slice av vs.length cv, .int .i64 n], .agg #[.int .i64 op, .int .i64 k, .string S, .slice a ks.length cap], .int .i64 0] w (EvTo none w)
    go_enter Try.func10, Try.ntmps10
    go_wp2_with fail
    with_reducible refine (reckonOf_any op _).mono ?_
    rintro e w2 ⟨rfl, rfl⟩
    generalize fe op = FE at *
    go_wp2_with fail
    go_ret2
    exact ⟨rfl, HB.out⟩
  | m + 1, hm, .mk op k s ks, w, ar, av, cr, cv, v, h, hv, hw => by
    have IH := Lib.hid (evexpr_any (rs := rs) (vs := vs) (n := n) m (by omega))
    have hv0 := hv
    unfold LX at hv0
    obtain ⟨a, cap, rfl, _, _⟩ := hv0
    unfold wfX at hw
    obtain ⟨ho, hk, hs, hks⟩ := hw
    have hb := two_below w (.cells #[.slice ar rs.length cr, .slice av vs.length cv, .int .i64 n] 42) (.cells #[.int .i64 op, .int .i64 k, .string (bs s), .slice a ks.length cap] 27)
    have HB := Lib.hid hb
    have HV := Lib.hid (hv.low hb)
    have HI := Lib.hid (h.below hb)
    have HK := Lib.hid hk
    have HKS := Lib.hid hks
    clear h hv hb hk hks ho hs
    have z1 : (((m + 1 : Nat) : Int) == 0) = false := by simp; omega
    have z2 : ((m : Int) + 1 == 0) = false := by simp; omega
    have z3 : (m + 1 == 0) = false := by simp
    have hm1 : ((m + 1 : Nat) : Int) = (m : Int) + 1 := by omega
    generalize hZ : ((m + 1 : Nat) : Int) = Z at *
    have HZ := Lib.hid hm1
    clear hZ hm1
    by_cases h1 : op = 1
    · subst h1
      have HA := Lib.hid (show Calls Try.prog 12 #[.agg #[.slice ar rs.length cr, .slice av vs.length cv, .int .i64 n], .agg #[.int .i64 1, .int .i64 k, .string (bs s), .slice a ks.length cap], .int .i64 Z] _ (EvTo (ev rs vs n (m + 1) (.mk 1 k s ks)) _) from evnum_any HI.out k s ks HK.out _ _ HV.out)
      generalize ev rs vs n (m + 1) (.mk 1 k s ks) = R at *
      clear HV HI
      generalize bs s = S at *
      go_enter Try.func10, Try.ntmps10
      go_wp2_with fail
      have hA := (Blk.new w 42 #[.slice ar rs.length cr, .slice av vs.length cv, .int .i64 n]).alloc (.cells #[.int .i64 1, .int .i64 k, .string S, .slice a ks.length cap] 27)
      have hB := Blk.new (w.alloc (.cells #[.slice ar rs.length cr, .slice av vs.length cv, .int .i64 n] 42)) 27 #[.int .i64 1, .int .i64 k, .string S, .slice a ks.length cap]
      rw [show (w.alloc (.cells #[.slice ar rs.length cr, .slice av vs.length cv, .int .i64 n] 42)).heap.size = w.heap.size + 1 by simp] at hB
      generalize hW : ((w.alloc (.cells #[.slice ar rs.length cr, .slice av vs.length cv, .int .i64 n] 42)).alloc (.cells #[.int .i64 1, .int .i64 k, .string S, .slice a ks.length cap] 27)) = W at *
      obtain ⟨p0, p1, p2⟩ := (show _ ∧ _ ∧ _ from ⟨hA.cell 0, hA.cell 1, hA.cell 2⟩)
      obtain ⟨q0, q1, q2, q3, _, _, _, _⟩ := four_free hB
      have p0' : W.cell? ⟨w.heap.size, 0, none⟩ = some (.slice ar rs.length cr) := p0
      have p1' : W.cell? ⟨w.heap.size, 1, none⟩ = some (.slice av vs.length cv) := p1
      have p2' : W.cell? ⟨w.heap.size, 2, none⟩ = some (.int .i64 n) := p2
      clear hW hA hB p0 p1 p2
      with_reducible refine (reckonOf_any 1 W).mono ?_
      rintro e w2 ⟨rfl, rfl⟩
      rw [show fe 1 = .func (.func 12) #[] #[] from rfl]
      have hrun : Sem.run Try.prog (binOp BinOp.eql 44 (.func (.func 12) #[] #[]) .nilFunc) W = .ok (.bool false) W := by kernel_rfl
      go_wp2_with fail
      with_reducible refine HA.out.mono ?_
      rintro e w3 ⟨rfl, hb3⟩
      unfold evR
      go_wp2_with fail
      go_ret2
      exact ⟨rfl, HB.out.trans (hb3.mono HB.out.size)⟩
    by_cases h2 : op = 2
    · subst h2
      have HA := Lib.hid (show Calls Try.prog 13 #[.agg #[.slice ar rs.length cr, .slice av vs.length cv, .int .i64 n], .agg #[.int .i64 2, .int .i64 k, .string (bs s), .slice a ks.length cap], .int .i64 Z] _ (EvTo (ev rs vs n (m + 1) (.mk 2 k s ks)) _) from evreg_any HI.out k s ks _ _ HV.out)
      generalize ev rs vs n (m + 1) (.mk 2 k s ks) = R at *
      clear HV HI
      generalize bs s = S at *
      go_enter Try.func10, Try.ntmps10
      go_wp2_with fail
      have hA := (Blk.new w 42 #[.slice ar rs.length cr, .slice av vs.length cv, .int .i64 n]).alloc (.cells #[.int .i64 2, .int .i64 k, .string S, .slice a ks.length cap] 27)
      have hB := Blk.new (w.alloc (.cells #[.slice ar rs.length cr, .slice av vs.length cv, .int .i64 n] 42)) 27 #[.int .i64 2, .int .i64 k, .string S, .slice a ks.length cap]
      rw [show (w.alloc (.cells #[.slice ar rs.length cr, .slice av vs.length cv, .int .i64 n] 42)).heap.size = w.heap.size + 1 by simp] at hB
      generalize hW : ((w.alloc (.cells #[.slice ar rs.length cr, .slice av vs.length cv, .int .i64 n] 42)).alloc (.cells #[.int .i64 2, .int .i64 k, .string S, .slice a ks.length cap] 27)) = W at *
      obtain ⟨p0, p1, p2⟩ := (show _ ∧ _ ∧ _ from ⟨hA.cell 0, hA.cell 1, hA.cell 2⟩)
      obtain ⟨q0, q1, q2, q3, _, _, _, _⟩ := four_free hB
      have p0' : W.cell? ⟨w.heap.size, 0, none⟩ = some (.slice ar rs.length cr) := p0
      have p1' : W.cell? ⟨w.heap.size, 1, none⟩ = some (.slice av vs.length cv) := p1
      have p2' : W.cell? ⟨w.heap.size, 2, none⟩ = some (.int .i64 n) := p2
      clear hW hA hB p0 p1 p2
      with_reducible refine (reckonOf_any 2 W).mono ?_
      rintro e w2 ⟨rfl, rfl⟩
      rw [show fe 2 = .func (.func 13) #[] #[] from rfl]
      have hrun : Sem.run Try.prog (binOp BinOp.eql 44 (.func (.func 13) #[] #[]) .nilFunc) W = .ok (.bool false) W := by kernel_rfl
      go_wp2_with fail
      with_reducible refine HA.out.mono ?_
      rintro e w3 ⟨rfl, hb3⟩
      unfold evR
      go_wp2_with fail
      go_ret2
      exact ⟨rfl, HB.out.trans (hb3.mono HB.out.size)⟩
    by_cases h3 : op = 3
    · subst h3
      have HA := Lib.hid (show Calls Try.prog 14 #[.agg #[.slice ar rs.length cr, .slice av vs.length cv, .int .i64 n], .agg #[.int .i64 3, .int .i64 k, .string (bs s), .slice a ks.length cap], .int .i64 Z] _ (EvTo (ev rs vs n (m + 1) (.mk 3 k s ks)) _) from evplus_any m (by omega) IH.out _ ar av cr cv HI.out k s ks HKS.out _ _ HZ.out HV.out)
      generalize ev rs vs n (m + 1) (.mk 3 k s ks) = R at *
      clear HV HI
      generalize bs s = S at *
      go_enter Try.func10, Try.ntmps10
      go_wp2_with fail
      have hA := (Blk.new w 42 #[.slice ar rs.length cr, .slice av vs.length cv, .int .i64 n]).alloc (.cells #[.int .i64 3, .int .i64 k, .string S, .slice a ks.length cap] 27)
      have hB := Blk.new (w.alloc (.cells #[.slice ar rs.length cr, .slice av vs.length cv, .int .i64 n] 42)) 27 #[.int .i64 3, .int .i64 k, .string S, .slice a ks.length cap]
      rw [show (w.alloc (.cells #[.slice ar rs.length cr, .slice av vs.length cv, .int .i64 n] 42)).heap.size = w.heap.size + 1 by simp] at hB
      generalize hW : ((w.alloc (.cells #[.slice ar rs.length cr, .slice av vs.length cv, .int .i64 n] 42)).alloc (.cells #[.int .i64 3, .int .i64 k, .string S, .slice a ks.length cap] 27)) = W at *
      obtain ⟨p0, p1, p2⟩ := (show _ ∧ _ ∧ _ from ⟨hA.cell 0, hA.cell 1, hA.cell 2⟩)
      obtain ⟨q0, q1, q2, q3, _, _, _, _⟩ := four_free hB
      have p0' : W.cell? ⟨w.heap.size, 0, none⟩ = some (.slice ar rs.length cr) := p0
      have p1' : W.cell? ⟨w.heap.size, 1, none⟩ = some (.slice av vs.length cv) := p1
      have p2' : W.cell? ⟨w.heap.size, 2, none⟩ = some (.int .i64 n) := p2
      clear hW hA hB p0 p1 p2
      with_reducible refine (reckonOf_any 3 W).mono ?_
      rintro e w2 ⟨rfl, rfl⟩
      rw [show fe 3 = .func (.func 14) #[] #[] from rfl]
      have hrun : Sem.run Try.prog (binOp BinOp.eql 44 (.func (.func 14) #[] #[]) .nilFunc) W = .ok (.bool false) W := by kernel_rfl
      go_wp2_with fail
      with_reducible refine HA.out.mono ?_
      rintro e w3 ⟨rfl, hb3⟩
      unfold evR
      go_wp2_with fail
      go_ret2
      exact ⟨rfl, HB.out.trans (hb3.mono HB.out.size)⟩
    by_cases h4 : op = 4
    · subst h4
      have HA := Lib.hid (show Calls Try.prog 15 #[.agg #[.slice ar rs.length cr, .slice av vs.length cv, .int .i64 n], .agg #[.int .i64 4, .int .i64 k, .string (bs s), .slice a ks.length cap], .int .i64 Z] _ (EvTo (ev rs vs n (m + 1) (.mk 4 k s ks)) _) from evminus_any m (by omega) IH.out _ ar av cr cv HI.out k s ks HKS.out _ _ HZ.out HV.out)
      generalize ev rs vs n (m + 1) (.mk 4 k s ks) = R at *
      clear HV HI
      generalize bs s = S at *
      go_enter Try.func10, Try.ntmps10
      go_wp2_with fail
      have hA := (Blk.new w 42 #[.slice ar rs.length cr, .slice av vs.length cv, .int .i64 n]).alloc (.cells #[.int .i64 4, .int .i64 k, .string S, .slice a ks.length cap] 27)
      have hB := Blk.new (w.alloc (.cells #[.slice ar rs.length cr, .slice av vs.length cv, .int .i64 n] 42)) 27 #[.int .i64 4, .int .i64 k, .string S, .slice a ks.length cap]
      rw [show (w.alloc (.cells #[.slice ar rs.length cr, .slice av vs.length cv, .int .i64 n] 42)).heap.size = w.heap.size + 1 by simp] at hB
      generalize hW : ((w.alloc (.cells #[.slice ar rs.length cr, .slice av vs.length cv, .int .i64 n] 42)).alloc (.cells #[.int .i64 4, .int .i64 k, .string S, .slice a ks.length cap] 27)) = W at *
      obtain ⟨p0, p1, p2⟩ := (show _ ∧ _ ∧ _ from ⟨hA.cell 0, hA.cell 1, hA.cell 2⟩)
      obtain ⟨q0, q1, q2, q3, _, _, _, _⟩ := four_free hB
      have p0' : W.cell? ⟨w.heap.size, 0, none⟩ = some (.slice ar rs.length cr) := p0
      have p1' : W.cell? ⟨w.heap.size, 1, none⟩ = some (.slice av vs.length cv) := p1
      have p2' : W.cell? ⟨w.heap.size, 2, none⟩ = some (.int .i64 n) := p2
      clear hW hA hB p0 p1 p2
      with_reducible refine (reckonOf_any 4 W).mono ?_
      rintro e w2 ⟨rfl, rfl⟩
      rw [show fe 4 = .func (.func 15) #[] #[] from rfl]
      have hrun : Sem.run Try.prog (binOp BinOp.eql 44 (.func (.func 15) #[] #[]) .nilFunc) W = .ok (.bool false) W := by kernel_rfl
      go_wp2_with fail
      with_reducible refine HA.out.mono ?_
      rintro e w3 ⟨rfl, hb3⟩
      unfold evR
      go_wp2_with fail
      go_ret2
      exact ⟨rfl, HB.out.trans (hb3.mono HB.out.size)⟩
    by_cases h5 : op = 5
    · subst h5
      have HA := Lib.hid (show Calls Try.prog 16 #[.agg #[.slice ar rs.length cr, .slice av vs.length cv, .int .i64 n], .agg #[.int .i64 5, .int .i64 k, .string (bs s), .slice a ks.length cap], .int .i64 Z] _ (EvTo (ev rs vs n (m + 1) (.mk 5 k s ks)) _) from eveq_any m (by omega) IH.out _ ar av cr cv HI.out k s ks HKS.out _ _ HZ.out HV.out)
      generalize ev rs vs n (m + 1) (.mk 5 k s ks) = R at *
      clear HV HI
      generalize bs s = S at *
      go_enter Try.func10, Try.ntmps10
      go_wp2_with fail
      have hA := (Blk.new w 42 #[.slice ar rs.length cr, .slice av vs.length cv, .int .i64 n]).alloc (.cells #[.int .i64 5, .int .i64 k, .string S, .slice a ks.length cap] 27)
      have hB := Blk.new (w.alloc (.cells #[.slice ar rs.length cr, .slice av vs.length cv, .int .i64 n] 42)) 27 #[.int .i64 5, .int .i64 k, .string S, .slice a ks.length cap]
      rw [show (w.alloc (.cells #[.slice ar rs.length cr, .slice av vs.length cv, .int .i64 n] 42)).heap.size = w.heap.size + 1 by simp] at hB
      generalize hW : ((w.alloc (.cells #[.slice ar rs.length cr, .slice av vs.length cv, .int .i64 n] 42)).alloc (.cells #[.int .i64 5, .int .i64 k, .string S, .slice a ks.length cap] 27)) = W at *
      obtain ⟨p0, p1, p2⟩ := (show _ ∧ _ ∧ _ from ⟨hA.cell 0, hA.cell 1, hA.cell 2⟩)
      obtain ⟨q0, q1, q2, q3, _, _, _, _⟩ := four_free hB
      have p0' : W.cell? ⟨w.heap.size, 0, none⟩ = some (.slice ar rs.length cr) := p0
      have p1' : W.cell? ⟨w.heap.size, 1, none⟩ = some (.slice av vs.length cv) := p1
      have p2' : W.cell? ⟨w.heap.size, 2, none⟩ = some (.int .i64 n) := p2
      clear hW hA hB p0 p1 p2
      with_reducible refine (reckonOf_any 5 W).mono ?_
      rintro e w2 ⟨rfl, rfl⟩
      rw [show fe 5 = .func (.func 16) #[] #[] from rfl]
      have hrun : Sem.run Try.prog (binOp BinOp.eql 44 (.func (.func 16) #[] #[]) .nilFunc) W = .ok (.bool false) W := by kernel_rfl
      go_wp2_with fail
      with_reducible refine HA.out.mono ?_
      rintro e w3 ⟨rfl, hb3⟩
      unfold evR
      go_wp2_with fail
      go_ret2
      exact ⟨rfl, HB.out.trans (hb3.mono HB.out.size)⟩
    by_cases h6 : op = 6
    · subst h6
      have HA := Lib.hid (show Calls Try.prog 17 #[.agg #[.slice ar rs.length cr, .slice av vs.length cv, .int .i64 n], .agg #[.int .i64 6, .int .i64 k, .string (bs s), .slice a ks.length cap], .int .i64 Z] _ (EvTo (ev rs vs n (m + 1) (.mk 6 k s ks)) _) from evless_any m (by omega) IH.out _ ar av cr cv HI.out k s ks HKS.out _ _ HZ.out HV.out)
      generalize ev rs vs n (m + 1) (.mk 6 k s ks) = R at *
      clear HV HI
      generalize bs s = S at *
      go_enter Try.func10, Try.ntmps10
      go_wp2_with fail
      have hA := (Blk.new w 42 #[.slice ar rs.length cr, .slice av vs.length cv, .int .i64 n]).alloc (.cells #[.int .i64 6, .int .i64 k, .string S, .slice a ks.length cap] 27)
      have hB := Blk.new (w.alloc (.cells #[.slice ar rs.length cr, .slice av vs.length cv, .int .i64 n] 42)) 27 #[.int .i64 6, .int .i64 k, .string S, .slice a ks.length cap]
      rw [show (w.alloc (.cells #[.slice ar rs.length cr, .slice av vs.length cv, .int .i64 n] 42)).heap.size = w.heap.size + 1 by simp] at hB
      generalize hW : ((w.alloc (.cells #[.slice ar rs.length cr, .slice av vs.length cv, .int .i64 n] 42)).alloc (.cells #[.int .i64 6, .int .i64 k, .string S, .slice a ks.length cap] 27)) = W at *
      obtain ⟨p0, p1, p2⟩ := (show _ ∧ _ ∧ _ from ⟨hA.cell 0, hA.cell 1, hA.cell 2⟩)
      obtain ⟨q0, q1, q2, q3, _, _, _, _⟩ := four_free hB
      have p0' : W.cell? ⟨w.heap.size, 0, none⟩ = some (.slice ar rs.length cr) := p0
      have p1' : W.cell? ⟨w.heap.size, 1, none⟩ = some (.slice av vs.length cv) := p1
      have p2' : W.cell? ⟨w.heap.size, 2, none⟩ = some (.int .i64 n) := p2
      clear hW hA hB p0 p1 p2
      with_reducible refine (reckonOf_any 6 W).mono ?_
      rintro e w2 ⟨rfl, rfl⟩
      rw [show fe 6 = .func (.func 17) #[] #[] from rfl]
      have hrun : Sem.run Try.prog (binOp BinOp.eql 44 (.func (.func 17) #[] #[]) .nilFunc) W = .ok (.bool false) W := by kernel_rfl
      go_wp2_with fail
      with_reducible refine HA.out.mono ?_
      rintro e w3 ⟨rfl, hb3⟩
      unfold evR
      go_wp2_with fail
      go_ret2
      exact ⟨rfl, HB.out.trans (hb3.mono HB.out.size)⟩
    have hnone := P.ev_odd (o := op) h1 h2 (by omega) rs vs n (m + 1) k s ks
    rw [hnone]
    have hf : fe op = .nilFunc := by simp [fe, h1, h2, h3, h4, h5, h6]
    clear hnone HV HI h1 h2 h3 h4 h5 h6
    generalize bs s = S at *
    have HF := Lib.hid hf
    clear hf
    go_enter Try.func10, Try.ntmps10
    go_wp2_with fail
    with_reducible refine (reckonOf_any op _).mono ?_
    rintro e w2 ⟨rfl, rfl⟩
    rw [HF.out]
    have hrun : ∀ W, Sem.run Try.prog (binOp BinOp.eql 44 .nilFunc .nilFunc) W = .ok (.bool true) W := fun W => by kernel_rfl
    go_wp2_with fail
    go_ret2
    exact ⟨rfl, HB.out⟩
end Go.Proofs.Ytlgnagmmljdkiac.Lx
