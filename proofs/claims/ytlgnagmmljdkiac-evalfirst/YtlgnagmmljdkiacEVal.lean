/-
  What package eval tells of any expression over any registers, as contracts.
-/
import Derived.Test.YtlgnagmmljdkiacOX
import Derived.Test.YtlgnagmmljdkiacEVMath
import Derived.Test.YtlgnagmmljdkiacVLeaf
import Derived.Test.YtlgnagmmljdkiacPSame
import Derived.Test.YtlgnagmmljdkiacMWith
import Derived.Deep.RegionHeld3
import Derived.Deep.QuietTactic
import Derived.BigQuiet
namespace Go.Proofs.Ytlgnagmmljdkiac.Lx
open Go.RowKit
open P (EX ev ev2 plI jn)
set_option maxRecDepth 100000
set_option linter.unusedVariables false
set_option linter.unusedSimpArgs false
/-- A slice of ints. -/
def Ivs (Q : Nat → Prop) (w : World) (v : Value) (vs : List Int) : Prop := ∃ a cap, v = .slice a vs.length cap ∧ (vs = [] ∨ ∃ g off, a = some ⟨g, off, none⟩ ∧ Q g ∧ ∀ i, i < vs.length → w.cell? ⟨g, off + i, none⟩ = some (.int .i64 (vs.getD i 0)))
theorem Ivs.keep {Q : Nat → Prop} {w w' : World} {v : Value} {vs : List Int} (h : Ivs Q w v vs) (hk : Keeps Q w w') : Ivs Q w' v vs := by
  obtain ⟨a, c, rfl, h⟩ := h
  refine ⟨a, c, rfl, ?_⟩
  rcases h with h | ⟨g, off, ha, hg, hc⟩
  · exact .inl h
  · exact .inr ⟨g, off, ha, hg, fun i hi => hk.cell hg (hc i hi)⟩
/-- Registers and their values, how many values there are. -/
structure EvIn (w : World) (ar av : Option Addr) (cr cv : Nat) (rs : List (List UInt8)) (vs : List Int) (n : Int) : Prop where
  nms : Nms (fun _ => True) w (.slice ar rs.length cr) rs
  ivs : Ivs (fun _ => True) w (.slice av vs.length cv) vs
  len : vs.length = rs.length
  max : rs.length ≤ 1000
  i64 : ∀ i, W64 (vs.getD i 0)
  n2 : 2 ≤ n
  n4 : n ≤ 4
theorem EvIn.below {w w' : World} {ar av : Option Addr} {cr cv : Nat} {rs : List (List UInt8)} {vs : List Int} {n : Int} (h : EvIn w ar av cr cv rs vs n) (hb : Below w.heap.size w w') : EvIn w' ar av cr cv rs vs n :=
  ⟨h.nms.keep (Keeps.below hb (Nat.le_refl _)), h.ivs.keep (Keeps.below hb (Nat.le_refl _)), h.len, h.max, h.i64, h.n2, h.n4⟩
/-- What is told of what an expression comes to. -/
def evR (r : Option Int) : Value := .tuple #[.int .i64 (r.getD 0), .bool r.isSome]
def EvTo (r : Option Int) (w : World) (e : Ending) (w' : World) : Prop := e = .returned (evR r) ∧ Below w.heap.size w w'
theorem wi64 {n : Int} (h : W64 n) : Wr.I64 n := Wr.I64.mk h.1 h.2
theorem LX.low {w w' : World} {v : Value} {e : EX} (h : LX (fun _ => True) w v e) (hb : Below w.heap.size w w') : LX (fun _ => True) w' v e := LX.keep (Keeps.below hb (Nat.le_refl _)) e h

set_option maxHeartbeats 1600000 in
theorem sindex_any (rs : List (List UInt8)) (s : List UInt8) (Q : Nat → Prop) (v : Value) (w : World) (hv : Nms Q w v rs) (hm : rs.length ≤ 1000000) :
    Calls Try.prog 19 #[v, .string (bs s)] w (fun e w' => e = .returned (.int .i64 (plI s rs)) ∧ w = w') := by
  obtain ⟨a, cap, rfl, hc⟩ := hv
  have HC := Lib.hid hc
  have HR : Hid (∀ k : Int, plI s rs = k → plI s rs = k) := Lib.hid (fun k h => h)
  clear hc
  generalize hP : plI s rs = PL at *
  have HP := Lib.hid hP
  clear hP
  generalize hS : bs s = S at *
  have HS := Lib.hid hS
  clear hS
  go_enter Try.func19, Try.ntmps19
  go_wp2_with fail
  go_loop [8] (fun t => ∃ j : Nat, t = .int .i64 j ∧ j ≤ rs.length ∧ NotYet rs s j) (fun t => rs.length - (intOf t).toNat)
  case atStart => exact ⟨0, rfl, Nat.zero_le _, fun i hi => by omega⟩
  case round =>
    obtain ⟨j, rfl, hj, hny⟩ := hrel
    have HNY := Lib.hid hny
    clear hny
    by_cases hlt : j < rs.length
    · obtain ⟨g, off, hg, hq, hcell⟩ : ∃ g off, a = some ⟨g, off, none⟩ ∧ Q g ∧ ∀ i, i < rs.length → w.cell? ⟨g, off + i, none⟩ = some (.string (bs (rs.getD i []))) := by
        rcases HC.out with h0 | h0
        · rw [h0] at hlt
          simp at hlt
        · exact h0
      subst hg
      have hcj := hcell j hlt
      have d1 : (0 : Int) ≤ (j : Int) := by omega
      have d2 : (j : Int) < (rs.length : Int) := by omega
      have ht : (S.toList == (bs (rs.getD j [])).toList) = (rs.getD j [] == s) := by
        rw [toList_by, toList_by, ← HS.out, by_bs, by_bs]
        exact Bool.eq_iff_iff.2 ⟨fun h => by rw [eq_of_beq h]; exact beq_self_eq_true _, fun h => by rw [eq_of_beq h]; exact beq_self_eq_true _⟩
      have HJ := Lib.hid (show ∀ b, (rs.getD j [] == s) = b → (b = true → rs.getD j [] = s) ∧ (b = false → rs.getD j [] ≠ s) from fun b hb => ⟨fun h => eq_of_beq (hb.trans h), fun h e => by rw [e, beq_self_eq_true] at hb; rw [← hb] at h; cases h⟩)
      clear hcell
      generalize bs (rs.getD j []) = X at *
      cases hb : (rs.getD j [] == s)
      all_goals
        rw [hb] at ht
        have HB := Lib.hid hb
        clear hb
      · go_wp2
        go_round
        case rel => exact ⟨j + 1, by go_num, by omega, fun i hi => (by
          by_cases e : i = j
          · subst e
            exact (HJ.out _ HB.out).2 rfl
          · exact HNY.out i (by omega))⟩
        case measure => simp [intOf]; omega
      · go_wp2
        go_ret
        have hk := P.plI_at (s := s) hlt HNY.out ((HJ.out _ HB.out).1 rfl)
        exact ⟨congrArg (fun z => Ending.returned (.int .i64 z)) (hk.symm.trans HP.out), rfl⟩
    · obtain rfl : j = rs.length := by omega
      have hk := Lib.hid (P.plI_none (s := s) (rs := rs) HNY.out)
      clear hlt
      go_wp2
      go_ret
      exact ⟨congrArg (fun z => Ending.returned (.int .i64 z)) (hk.out.symm.trans HP.out), rfl⟩

theorem quietX {P : Program} {f : FuncId} {args : Array Value} {w : World} {n : Nat} {v : Value}
    (h : Calls P f args (w.drewN n) fun e w' => e = .returned v ∧ w.drewN n = w') : Calls P f args (w.drewN n) fun e w'' => e = .returned v ∧ ∃ m, w'' = w.drewN m :=
  h.mono fun _ _ ⟨he, hm⟩ => ⟨he, n, hm.symm⟩
theorem bel_drewN (w : World) (n : Nat) : Below w.heap.size w (w.drewN n) := by
  have h := Below.refl w.heap.size w
  exact ⟨h.os, h.tape, h.output, h.size, h.block⟩
theorem two_below (w : World) (o o' : Obj) : Below w.heap.size w ((w.alloc o).alloc o') := ((Below.refl _ _).alloc (Nat.le_refl _) _).alloc (by simp) _
set_option maxHeartbeats 1600000 in
theorem evnum_any {w : World} {ar av : Option Addr} {cr cv : Nat} {rs : List (List UInt8)} {vs : List Int} {n : Int} (h : EvIn w ar av cr cv rs vs n) (k : Int) (s : List UInt8) (ks : List EX) (hk : W64 k) (v : Value) (z : Int) (hv : LX (fun _ => True) w v (.mk 1 k s ks)) :
    Calls Try.prog 12 #[.agg #[.slice ar rs.length cr, .slice av vs.length cv, .int .i64 n], v, .int .i64 z] w (EvTo (some (V.inI k n)) w) := by
  unfold LX at hv
  obtain ⟨a, cap, rfl, _, _⟩ := hv
  have HI := Lib.hid (wi64 hk)
  clear h hk
  generalize bs s = S at *
  go_enter Try.func12, Try.ntmps12
  go_wp2_with fail
  with_reducible refine (Wr.in_any _ _ _ HI.out).mono ?_
  rintro e w2 ⟨rfl, rfl⟩
  go_wp2_with fail
  go_ret2
  exact ⟨rfl, two_below _ _ _⟩
theorem at_vals {w : World} {ar av : Option Addr} {cr cv : Nat} {rs : List (List UInt8)} {vs : List Int} {n : Int} (h : EvIn w ar av cr cv rs vs n) {i : Int} (h0 : 0 ≤ i) (h1 : i < rs.length) : ∃ g off, av = some ⟨g, off, none⟩ ∧ w.cell? ⟨g, off + i.toNat, none⟩ = some (.int .i64 (vs.getD i.toNat 0)) := by
  obtain ⟨a', c', he, hc⟩ := h.ivs
  injection he with e1 e2 e3
  subst e1
  have hl := h.len
  rcases hc with hc | ⟨g, off, ha, _, hc⟩
  · rw [hc] at hl
    simp at hl
    omega
  · exact ⟨g, off, ha, hc i.toNat (by omega)⟩
set_option maxHeartbeats 3200000 in
theorem evreg_any {w : World} {ar av : Option Addr} {cr cv : Nat} {rs : List (List UInt8)} {vs : List Int} {n : Int} (h : EvIn w ar av cr cv rs vs n) (k : Int) (s : List UInt8) (ks : List EX) (v : Value) (z : Int) (hv : LX (fun _ => True) w v (.mk 2 k s ks)) :
    Calls Try.prog 13 #[.agg #[.slice ar rs.length cr, .slice av vs.length cv, .int .i64 n], v, .int .i64 z] w (EvTo (if plI s rs < 0 then none else some (V.inI (vs.getD (plI s rs).toNat 0) n)) w) := by
  unfold LX at hv
  obtain ⟨a, cap, rfl, _, _⟩ := hv
  have hbd := P.plI_bd s rs
  have hb2 := two_below w (.cells #[.slice ar rs.length cr, .slice av vs.length cv, .int .i64 n] 42) (.cells #[.int .i64 2, .int .i64 k, .string (bs s), .slice a ks.length cap] 27)
  have HP := Lib.hid (fun w' (hb : Below w.heap.size w w') => sindex_any rs s (fun _ => True) _ w' (h.nms.keep (Keeps.below hb (Nat.le_refl _))) (by have := h.max; omega))
  have HL := Lib.hid h.len
  by_cases hn : plI s rs < 0
  · rw [if_pos hn]
    have HPv := Lib.hid (show plI s rs = -1 by omega)
    clear h hbd hn
    go_enter Try.func13, Try.ntmps13
    go_wp2_with fail
    with_reducible refine (HP.out _ hb2).mono ?_
    rw [HPv.out]
    rintro e w2 ⟨rfl, rfl⟩
    go_wp2_with fail
    go_ret2
    exact ⟨rfl, two_below _ _ _⟩
  · rw [if_neg hn]
    obtain ⟨g, off, rfl, hcell⟩ := at_vals h (i := plI s rs) (by omega) hbd.2
    have HC := Lib.hid (hb2.cell (p := ⟨g, off + (plI s rs).toNat, none⟩) (World.block_lt_of_cell? w _ hcell) |>.trans hcell)
    have HI := Lib.hid (wi64 (h.i64 (plI s rs).toNat))
    obtain ⟨i, hi⟩ : ∃ i : Nat, plI s rs = i := ⟨(plI s rs).toNat, by omega⟩
    have hil : i < rs.length := by omega
    rw [hi] at HC HI HP ⊢
    rw [Int.toNat_natCast] at HC HI ⊢
    have d1 : (0 : Int) ≤ (i : Int) := by omega
    have hlen := HL.out
    have d2 : (i : Int) < (vs.length : Int) := by omega
    have d3 : decide ((i : Int) < 0) = false := by simp
    clear hlen h hbd hn hcell hi
    generalize vs.getD i 0 = X at *
    generalize bs s = S at *
    go_enter Try.func13, Try.ntmps13
    go_wp2_with fail
    with_reducible refine (HP.out _ hb2).mono ?_
    rintro e w2 ⟨rfl, rfl⟩
    have hc1 := HC.out
    have hB0 := (Blk.new w 42 #[.slice ar rs.length cr, .slice (some ⟨g, off, none⟩) vs.length cv, .int .i64 n]).alloc (.cells #[.int .i64 2, .int .i64 k, .string S, .slice a ks.length cap] 27)
    have HBL := Lib.hid hb2
    clear hb2 HP
    generalize ((w.alloc (.cells #[.slice ar rs.length cr, .slice (some ⟨g, off, none⟩) vs.length cv, .int .i64 n] 42)).alloc (.cells #[.int .i64 2, .int .i64 k, .string S, .slice a ks.length cap] 27)) = W at *
    obtain ⟨q0, q1, q2⟩ := (show _ ∧ _ ∧ _ from ⟨hB0.cell 0, hB0.cell 1, hB0.cell 2⟩)
    have q1' : W.cell? ⟨w.heap.size, 1, none⟩ = some (.slice (some ⟨g, off, none⟩) vs.length cv) := q1
    have q2' : W.cell? ⟨w.heap.size, 2, none⟩ = some (.int .i64 n) := q2
    clear q0 q1 q2 hB0
    go_wp2_with fail
    go_quiet ((go_at_call 18; exact quietX (Wr.in_any _ _ _ HI.out)))
    go_wp2_with fail
    go_ret2
    exact ⟨rfl, HBL.out.trans ((bel_drewN _ _).mono HBL.out.size)⟩

/-- What F makes of two is that of an Op. -/
def Joins (F : Nat) (op n : Int) : Prop := ∀ (x y : Int) (w : World), 0 ≤ x → x < n → 0 ≤ y → y < n → Calls Try.prog F #[.int .i64 x, .int .i64 y, .int .i64 n] w (fun e w' => e = .returned (.int .i64 (jn op x y n)) ∧ w = w')
theorem Joins.call {F : Nat} {op n : Int} (h : Joins F op n) {x y : Int} (w : World) (hx : 0 ≤ x ∧ x < n) (hy : 0 ≤ y ∧ y < n) : Calls Try.prog F #[.int .i64 x, .int .i64 y, .int .i64 n] w (fun e w' => e = .returned (.int .i64 (jn op x y n)) ∧ w = w') := h x y w hx.1 hx.2 hy.1 hy.2
theorem small_i64 {x n : Int} (hn : n ≤ 4) (h0 : 0 ≤ x) (h1 : x < n) : Wr.I64 x := Wr.I64.mk (by omega) (by omega)
theorem joins_add {n : Int} (hn : 2 ≤ n ∧ n ≤ 4) : Joins 21 3 n := fun x y w hx0 hx1 hy0 hy1 => Wr.add_any x y n w (small_i64 hn.2 hx0 hx1) (small_i64 hn.2 hy0 hy1)
theorem joins_sub {n : Int} (hn : 2 ≤ n ∧ n ≤ 4) : Joins 22 4 n := fun x y w hx0 hx1 hy0 hy1 => Wr.sub_any x y n w (small_i64 hn.2 hx0 hx1) (small_i64 hn.2 hy0 hy1)
set_option maxHeartbeats 400000 in
theorem bit_any (b : Bool) (w : World) : Calls Try.prog 24 #[.bool b] w (fun e w' => e = .returned (.int .i64 (if b then 1 else 0)) ∧ w = w') := by
  cases b
  all_goals
    go_enter Try.func24, Try.ntmps24
    go_wp2_with fail
    go_ret
    exact ⟨rfl, rfl⟩

set_option maxHeartbeats 400000 in
theorem joins_eq {n : Int} (hn : 2 ≤ n ∧ n ≤ 4) : Joins 23 5 n := fun x y w hx0 hx1 hy0 hy1 => by
  have HJ : jn 5 x y n = if x = y then 1 else 0 := by simp [jn]
  rw [HJ]
  clear HJ hx0 hx1 hy0 hy1
  by_cases hxy : x = y
  · rw [if_pos hxy]
    have e1 : (x == y) = true := by simpa using hxy
    clear hxy
    go_enter Try.func23, Try.ntmps23
    go_wp2_with fail
    with_reducible refine (bit_any true _).mono ?_
    rintro e w2 ⟨rfl, rfl⟩
    go_wp2_with fail
    go_ret
    exact ⟨rfl, rfl⟩
  · rw [if_neg hxy]
    have e1 : (x == y) = false := by simpa using hxy
    clear hxy
    go_enter Try.func23, Try.ntmps23
    go_wp2_with fail
    with_reducible refine (bit_any false _).mono ?_
    rintro e w2 ⟨rfl, rfl⟩
    go_wp2_with fail
    go_ret
    exact ⟨rfl, rfl⟩

set_option maxHeartbeats 400000 in
theorem joins_less {n : Int} (hn : 2 ≤ n ∧ n ≤ 4) : Joins 25 6 n := fun x y w hx0 hx1 hy0 hy1 => by
  have HJ : jn 6 x y n = if x < y then 1 else 0 := by simp [jn]
  rw [HJ]
  clear HJ hx0 hx1 hy0 hy1
  by_cases hxy : x < y
  · rw [if_pos hxy]
    have e1 : (decide (x < y)) = true := by simpa using hxy
    clear hxy
    go_enter Try.func25, Try.ntmps25
    go_wp2_with fail
    with_reducible refine (bit_any true _).mono ?_
    rintro e w2 ⟨rfl, rfl⟩
    go_wp2_with fail
    go_ret
    exact ⟨rfl, rfl⟩
  · rw [if_neg hxy]
    have e1 : (decide (x < y)) = false := by simpa using hxy
    clear hxy
    go_enter Try.func25, Try.ntmps25
    go_wp2_with fail
    with_reducible refine (bit_any false _).mono ?_
    rintro e w2 ⟨rfl, rfl⟩
    go_wp2_with fail
    go_ret
    exact ⟨rfl, rfl⟩

theorem enters_jadd : Enters 21 := enters_of Try.func21 (by kernel_rfl) rfl
theorem enters_jsub : Enters 22 := enters_of Try.func22 (by kernel_rfl) rfl
theorem enters_jeq : Enters 23 := enters_of Try.func23 (by kernel_rfl) rfl
theorem enters_jless : Enters 25 := enters_of Try.func25 (by kernel_rfl) rfl
theorem evR_none : evR none = .tuple #[.int .i64 0, .bool false] := rfl
theorem evR_some (x : Int) : evR (some x) = .tuple #[.int .i64 x, .bool true] := rfl
set_option maxHeartbeats 12800000 in
theorem both_any (F : Nat) (op : Int) (hF : Enters F) (ho : 3 ≤ op ∧ op ≤ 6) (m : Nat) (hm : m ≤ 100) {rs : List (List UInt8)} {vs : List Int} {n : Int} (hJ : Joins F op n)
    (IH : ∀ (e : EX) (w : World) (ar av : Option Addr) (cr cv : Nat) (v : Value), EvIn w ar av cr cv rs vs n → LX (fun _ => True) w v e → wfX e → Calls Try.prog 10 #[.agg #[.slice ar rs.length cr, .slice av vs.length cv, .int .i64 n], v, .int .i64 (m : Nat)] w (EvTo (ev rs vs n m e) w))
    (w : World) (ar av : Option Addr) (cr cv : Nat) (h : EvIn w ar av cr cv rs vs n) (k : Int) (s : List UInt8) (ks : List EX) (hks : wfXs ks) (v : Value) (z : Int) (hz : z = (m : Int) + 1) (hv : LX (fun _ => True) w v (.mk op k s ks)) :
    Calls Try.prog 20 #[.agg #[.slice ar rs.length cr, .slice av vs.length cv, .int .i64 n], v, .int .i64 z, .func (.func F) #[] #[]] w (EvTo (ev rs vs n (m + 1) (.mk op k s ks)) w) := by
  subst hz
  unfold LX at hv
  obtain ⟨a, cap, rfl, hmax, hc⟩ := hv
  unfold maxLen at hmax
  have HF := Lib.hid hF
  have HJ := Lib.hid hJ
  clear hF hJ
  by_cases hk2 : ks.length = 2
  · rcases ks with _ | ⟨x, _ | ⟨y, _ | ⟨z, r⟩⟩⟩ <;> simp at hk2
    clear hk2
    rw [P.ev_two ho]
    generalize hR : ev2 rs vs n m op x y = R
    have HR := Lib.hid hR
    clear hR
    rcases hc with hc | ⟨g, off, rfl, _, hs⟩
    · cases hc
    obtain ⟨x', a0, a1, a2, a3, hx, k0, k1, k2, k3, hlx⟩ := LXs.at _ hs 0 (by simp)
    obtain ⟨y', b0, b1, b2, b3, hy, k4, k5, k6, k7, hly⟩ := LXs.at _ hs 1 (by simp)
    obtain rfl : x = x' := by simpa using hx
    obtain rfl : y = y' := by simpa using hy
    have hwx : wfX x := wfXs_mem hks x (.head _)
    have hwy : wfX y := wfXs_mem hks y (.tail _ (.head _))
    rw [show off + 0 * 4 = off by omega] at k0 k1 k2 k3
    rw [show off + 1 * 4 = off + 4 by omega] at k4 k5 k6 k7
    generalize bs s = S at *
    have hb2 := two_below w (.cells #[.slice ar rs.length cr, .slice av vs.length cv, .int .i64 n] 42) (.cells #[.int .i64 op, .int .i64 k, .string S, .slice (some ⟨g, off, none⟩) 2 cap] 27)
    have hA := (Blk.new w 42 #[.slice ar rs.length cr, .slice av vs.length cv, .int .i64 n]).alloc (.cells #[.int .i64 op, .int .i64 k, .string S, .slice (some ⟨g, off, none⟩) 2 cap] 27)
    have hB := Blk.new (w.alloc (.cells #[.slice ar rs.length cr, .slice av vs.length cv, .int .i64 n] 42)) 27 #[.int .i64 op, .int .i64 k, .string S, .slice (some ⟨g, off, none⟩) 2 cap]
    rw [show (w.alloc (.cells #[.slice ar rs.length cr, .slice av vs.length cv, .int .i64 n] 42)).heap.size = w.heap.size + 1 by simp] at hB
    have HS := Lib.hid (show ∀ w', Below w.heap.size w w' → (w'.cell? ⟨g, off, none⟩ = some a0 ∧ w'.cell? ⟨g, off + 1, none⟩ = some a1 ∧ w'.cell? ⟨g, off + 2, none⟩ = some a2 ∧ w'.cell? ⟨g, off + 3, none⟩ = some a3 ∧ w'.cell? ⟨g, off + 4, none⟩ = some b0 ∧ w'.cell? ⟨g, off + 5, none⟩ = some b1 ∧ w'.cell? ⟨g, off + 6, none⟩ = some b2 ∧ w'.cell? ⟨g, off + 7, none⟩ = some b3) from fun w' hb => by
      have hq : ∀ (o : Nat) (u : Value), w.cell? ⟨g, o, none⟩ = some u → w'.cell? ⟨g, o, none⟩ = some u := fun o u hu => (hb.cell (p := ⟨g, o, none⟩) (World.block_lt_of_cell? w _ hu)).trans hu
      exact ⟨hq _ _ k0, hq _ _ k1, hq _ _ k2, hq _ _ k3, hq _ _ k4, hq _ _ k5, hq _ _ k6, hq _ _ k7⟩)
    have HX := Lib.hid (fun w' (hb : Below w.heap.size w w') => IH x w' ar av cr cv _ (h.below hb) (hlx.low hb) hwx)
    have HY := Lib.hid (fun w' (hb : Below w.heap.size w w') => IH y w' ar av cr cv _ (h.below hb) (hly.low hb) hwy)
    have hbx := P.ev_bd (rs := rs) (vs := vs) ⟨h.n2, h.n4⟩ m x
    have hby := P.ev_bd (rs := rs) (vs := vs) ⟨h.n2, h.n4⟩ m y
    have HBX := Lib.hid hbx
    have HBY := Lib.hid hby
    have wr1 : IntKind.i64.wrap (m : Int) = (m : Int) := IntWalk.i64_in _ (by omega)
    have wr2 : (m : Int) + 1 - 1 = (m : Int) := by omega
    clear hx hy k0 k1 k2 k3 k4 k5 k6 k7 hlx hly hs hwx hwy hks IH h hbx hby
    go_enter Try.func20, Try.ntmps20
    go_wp2_with fail
    generalize hW : ((w.alloc (.cells #[.slice ar rs.length cr, .slice av vs.length cv, .int .i64 n] 42)).alloc (.cells #[.int .i64 op, .int .i64 k, .string S, .slice (some ⟨g, off, none⟩) 2 cap] 27)) = W at *
    have hz := hB.lt
    clear hW
    have HBL := Lib.hid hb2
    have HK := Lib.hid (show ∀ w', Below W.heap.size W w' → (w'.cell? ⟨w.heap.size, 0, none⟩ = some (.slice ar rs.length cr) ∧ w'.cell? ⟨w.heap.size, 1, none⟩ = some (.slice av vs.length cv) ∧ w'.cell? ⟨w.heap.size, 2, none⟩ = some (.int .i64 n) ∧ w'.cell? ⟨w.heap.size + 1, 3, none⟩ = some (.slice (some ⟨g, off, none⟩) 2 cap) ∧ w'.cell? ⟨g, off, none⟩ = some a0 ∧ w'.cell? ⟨g, off + 1, none⟩ = some a1 ∧ w'.cell? ⟨g, off + 2, none⟩ = some a2 ∧ w'.cell? ⟨g, off + 3, none⟩ = some a3 ∧ w'.cell? ⟨g, off + 4, none⟩ = some b0 ∧ w'.cell? ⟨g, off + 5, none⟩ = some b1 ∧ w'.cell? ⟨g, off + 6, none⟩ = some b2 ∧ w'.cell? ⟨g, off + 7, none⟩ = some b3) from fun w' hb => by
      have hA' := hA.below hb (by omega)
      have hB' := hB.below hb hz
      exact ⟨hA'.cell 0, hA'.cell 1, hA'.cell 2, hB'.cell 3, HS.out w' (HBL.out.trans (hb.mono HBL.out.size))⟩)
    have HX1 := Lib.hid (fun w' (hb : Below W.heap.size W w') => (HX.out w' (HBL.out.trans (hb.mono HBL.out.size))).mono fun e w'' (hh : EvTo (ev rs vs n m x) w' e w'') => (show e = .returned (evR (ev rs vs n m x)) ∧ Below W.heap.size W w'' from ⟨hh.1, hb.trans (hh.2.mono hb.size)⟩))
    have HY1 := Lib.hid (fun w' (hb : Below W.heap.size W w') => (HY.out w' (HBL.out.trans (hb.mono HBL.out.size))).mono fun e w'' (hh : EvTo (ev rs vs n m y) w' e w'') => (show e = .returned (evR (ev rs vs n m y)) ∧ Below W.heap.size W w'' from ⟨hh.1, hb.trans (hh.2.mono hb.size)⟩))
    have HK0 := Lib.hid (HK.out W (Below.refl _ _))
    have HKD := Lib.hid (HK.out W.drew (Below.refl _ _).drew)
    have hbD : Below W.heap.size W W.drew := (Below.refl _ _).drew
    clear HX HY HS hA hB hb2
    cases hex : ev rs vs n m x with
    | none =>
      rw [hex, evR_none] at HX1
      have HE := Lib.hid (show R = none by rw [← HR.out]; unfold P.ev2; rw [hex])
      clear hex
      go_region_held3 (fun w' => w'.cell? ⟨w.heap.size, 0, none⟩ = some (.slice ar rs.length cr) ∧ w'.cell? ⟨w.heap.size, 1, none⟩ = some (.slice av vs.length cv) ∧ w'.cell? ⟨w.heap.size, 2, none⟩ = some (.int .i64 n) ∧ w'.cell? ⟨w.heap.size + 1, 3, none⟩ = some (.slice (some ⟨g, off, none⟩) 2 cap) ∧ w'.cell? ⟨g, off, none⟩ = some a0 ∧ w'.cell? ⟨g, off + 1, none⟩ = some a1 ∧ w'.cell? ⟨g, off + 2, none⟩ = some a2 ∧ w'.cell? ⟨g, off + 3, none⟩ = some a3 ∧ w'.cell? ⟨g, off + 4, none⟩ = some b0 ∧ w'.cell? ⟨g, off + 5, none⟩ = some b1 ∧ w'.cell? ⟨g, off + 6, none⟩ = some b2 ∧ w'.cell? ⟨g, off + 7, none⟩ = some b3)
        (first
          | with_reducible exact HK0.out
          | with_reducible exact HKD.out
          | with_reducible assumption
          | go_keep)
        ((go_at_call 10; (with_reducible refine (HX1.out _ (by assumption)).mono ?_); rintro e w7 ⟨rfl, hb7⟩; have hS7 := HK.out w7 hb7))
      all_goals
        go_wp2_with fail
        go_ret2
        rw [HE.out]
        exact ⟨rfl, HBL.out.trans (hb7.mono HBL.out.size)⟩
    | some xv =>
      have hxb := HBX.out xv hex
      rw [hex, evR_some] at HX1
      have HEX := Lib.hid hex
      clear hex
      go_region_held3 (fun w' => w'.cell? ⟨w.heap.size, 0, none⟩ = some (.slice ar rs.length cr) ∧ w'.cell? ⟨w.heap.size, 1, none⟩ = some (.slice av vs.length cv) ∧ w'.cell? ⟨w.heap.size, 2, none⟩ = some (.int .i64 n) ∧ w'.cell? ⟨w.heap.size + 1, 3, none⟩ = some (.slice (some ⟨g, off, none⟩) 2 cap) ∧ w'.cell? ⟨g, off, none⟩ = some a0 ∧ w'.cell? ⟨g, off + 1, none⟩ = some a1 ∧ w'.cell? ⟨g, off + 2, none⟩ = some a2 ∧ w'.cell? ⟨g, off + 3, none⟩ = some a3 ∧ w'.cell? ⟨g, off + 4, none⟩ = some b0 ∧ w'.cell? ⟨g, off + 5, none⟩ = some b1 ∧ w'.cell? ⟨g, off + 6, none⟩ = some b2 ∧ w'.cell? ⟨g, off + 7, none⟩ = some b3)
        (first
          | with_reducible exact HK0.out
          | with_reducible exact HKD.out
          | with_reducible assumption
          | go_keep)
        ((go_at_call 10; (with_reducible refine (HX1.out _ (by assumption)).mono ?_); rintro e w7 ⟨rfl, hb7⟩; have hS7 := HK.out w7 hb7))
      all_goals
        have hb7D : Below W.heap.size W w7.drew := hb7.drew
        have HK7 := Lib.hid (HK.out w7 hb7)
        have HK7D := Lib.hid (HK.out w7.drew hb7D)
        clear hS7
        cases hey : ev rs vs n m y with
        | none =>
          rw [hey, evR_none] at HY1
          have HE := Lib.hid (show R = none by rw [← HR.out]; unfold P.ev2; rw [HEX.out, hey])
          clear hey
          go_wp2_with fail
          go_region_held3 (fun w' => w'.cell? ⟨w.heap.size, 0, none⟩ = some (.slice ar rs.length cr) ∧ w'.cell? ⟨w.heap.size, 1, none⟩ = some (.slice av vs.length cv) ∧ w'.cell? ⟨w.heap.size, 2, none⟩ = some (.int .i64 n) ∧ w'.cell? ⟨w.heap.size + 1, 3, none⟩ = some (.slice (some ⟨g, off, none⟩) 2 cap) ∧ w'.cell? ⟨g, off, none⟩ = some a0 ∧ w'.cell? ⟨g, off + 1, none⟩ = some a1 ∧ w'.cell? ⟨g, off + 2, none⟩ = some a2 ∧ w'.cell? ⟨g, off + 3, none⟩ = some a3 ∧ w'.cell? ⟨g, off + 4, none⟩ = some b0 ∧ w'.cell? ⟨g, off + 5, none⟩ = some b1 ∧ w'.cell? ⟨g, off + 6, none⟩ = some b2 ∧ w'.cell? ⟨g, off + 7, none⟩ = some b3)
            (first
              | with_reducible exact HK7.out
              | with_reducible exact HK7D.out
              | with_reducible assumption
              | go_keep)
            ((go_at_call 10; (with_reducible refine (HY1.out _ (by assumption)).mono ?_); rintro e w8 ⟨rfl, hb8⟩; have hS8 := HK.out w8 hb8))
          all_goals
            go_wp2_with fail
            go_ret2
            rw [HE.out]
            exact ⟨rfl, HBL.out.trans (hb8.mono HBL.out.size)⟩
        | some yv =>
          have hyb := HBY.out yv hey
          rw [hey, evR_some] at HY1
          have HE := Lib.hid (show R = some (jn op xv yv n) by rw [← HR.out]; unfold P.ev2; rw [HEX.out, hey])
          clear hey
          go_wp2_with fail
          go_region_held3 (fun w' => w'.cell? ⟨w.heap.size, 0, none⟩ = some (.slice ar rs.length cr) ∧ w'.cell? ⟨w.heap.size, 1, none⟩ = some (.slice av vs.length cv) ∧ w'.cell? ⟨w.heap.size, 2, none⟩ = some (.int .i64 n) ∧ w'.cell? ⟨w.heap.size + 1, 3, none⟩ = some (.slice (some ⟨g, off, none⟩) 2 cap) ∧ w'.cell? ⟨g, off, none⟩ = some a0 ∧ w'.cell? ⟨g, off + 1, none⟩ = some a1 ∧ w'.cell? ⟨g, off + 2, none⟩ = some a2 ∧ w'.cell? ⟨g, off + 3, none⟩ = some a3 ∧ w'.cell? ⟨g, off + 4, none⟩ = some b0 ∧ w'.cell? ⟨g, off + 5, none⟩ = some b1 ∧ w'.cell? ⟨g, off + 6, none⟩ = some b2 ∧ w'.cell? ⟨g, off + 7, none⟩ = some b3)
            (first
              | with_reducible exact HK7.out
              | with_reducible exact HK7D.out
              | with_reducible assumption
              | go_keep)
            ((go_at_call 10; (with_reducible refine (HY1.out _ (by assumption)).mono ?_); rintro e w8 ⟨rfl, hb8⟩; have hS8 := HK.out w8 hb8))
          all_goals
            have HJ8 := Lib.hid (HJ.out.call w8 hxb hyb)
            have hq := hS8.2.2.1
            clear hS8 hxb hyb
            go_wp2_with fail
            rw [HF.out, Oper.upon_enter]
            with_reducible refine HJ8.out.mono ?_
            rintro e w9 ⟨rfl, rfl⟩
            go_wp2_with fail
            go_ret2
            rw [HE.out]
            exact ⟨rfl, HBL.out.trans (hb8.mono HBL.out.size)⟩
  · rw [P.ev_kids ho _ _ _ _ _ _ _ hk2]
    have e1 : ((ks.length : Int) != 2) = true := by simp; omega
    have e2 : ((ks.length : Int) == 2) = false := by simp; omega
    have e3 : (ks.length == 2) = false := by simpa using hk2
    clear hk2 hc IH h
    generalize bs s = S at *
    go_enter Try.func20, Try.ntmps20
    go_wp2_with fail
    go_ret2
    exact ⟨rfl, two_below _ _ _⟩

end Go.Proofs.Ytlgnagmmljdkiac.Lx
