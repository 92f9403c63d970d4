/-
  What the queue's own calls do (key, put, take, size), as contracts.
-/
import Derived.Test.YtjboapelelcieaaWHeap
namespace Go.Proofs.Ytjboapelelcieaa.Wk
open Go.RowKit
set_option linter.unusedVariables false
set_option linter.unusedSimpArgs false
/-- Numbers as cells. -/
def ints (xs : List Int) : List Value := xs.map (Value.int .i64)
/-- The key of the k-th thing that is pushed. -/
def keyOf (ps : List Int) (k : Nat) : Int := if ps.length = 0 then 0 else ps.getD (k % ps.length) 0
/-- A queue's picks, in a row of its own. -/
def Pk (w : World) (base : Nat) (pv : Value) (ps : List Int) : Prop := w.ownsRow base 3 1 pv ps.length (ints ps) ∧ ps.length ≤ 1000000000
theorem Pk.cell {w : World} {base : Nat} {pv : Value} {ps : List Int} (h : Pk w base pv ps) (h0 : 0 < ps.length) : ∃ g c, pv = .slice (some ⟨g, 0, none⟩) ps.length c ∧ ∀ i, i < ps.length → w.cell? ⟨g, i, none⟩ = some (.int .i64 (ps.getD i 0)) := by
  rcases h.1.2 with ⟨_, hz⟩ | ⟨g, cap, cur, rfl, hg, hh, hn, hcm, hs, ht⟩
  · omega
  · refine ⟨g, cap, rfl, fun i hi => ?_⟩
    have hB : Blk w g 3 cur := hh
    rw [hB.cell]
    have h1 : (ints ps)[i]? = some (.int .i64 (ps.getD i 0)) := by simp [ints, List.getD_eq_getElem?_getD, hi]
    rw [← ht, List.getElem?_take] at h1
    split at h1
    · simpa using h1
    · cases h1
set_option maxHeartbeats 800000 in
theorem key_any (Q k base : Nat) (ps : List Int) (v pv : Value) (w : World) (hq : Qv w Q v pv (.int .i64 (k : Nat))) (hp : Pk w base pv ps) :
    Calls Try.prog 18 #[.pointer (some ⟨Q, 0, none⟩)] w (Drew (.int .i64 (keyOf ps k)) w) := by
  have c1 : w.cell? ⟨Q, 1, none⟩ = some pv := Blk.cell hq 1
  have c2 : w.cell? ⟨Q, 2, none⟩ = some (.int .i64 (k : Nat)) := Blk.cell hq 2
  have hpl := hp.2
  by_cases h0 : ps.length = 0
  · have HK : Hid (keyOf ps k = 0) := show keyOf ps k = 0 by simp [keyOf, h0]
    obtain ⟨a, c, rfl⟩ := slice_of_own hp.1
    have c1' : w.cell? ⟨Q, 1, none⟩ = some (.slice a 0 c) := by rw [c1, h0]
    clear h0 hp hq c1
    go_enter Try.func18, Try.ntmps18
    go_wp2
    go_ret
    exact ⟨ret_int HK.out.symm, 0, rfl⟩
  · obtain ⟨g, c, rfl, hc⟩ := hp.cell (by omega)
    obtain ⟨r, hr⟩ : ∃ r, r = k % ps.length := ⟨_, rfl⟩
    have hrl : r < ps.length := by rw [hr]; exact Nat.mod_lt _ (by omega)
    have HK : Hid (keyOf ps k = ps.getD r 0) := show _ = _ by simp [keyOf, h0, hr]
    have c3 := hc r hrl
    have t0 : ((ps.length : Int) == 0) = false := by simpa using (show ¬ (ps.length : Int) = 0 by omega)
    have t1 : ¬ ps.length = 0 := h0
    have t2 : ¬ (ps.length : Int) = 0 := by omega
    have hm1 : (k : Int).tmod (ps.length : Int) = (r : Int) := by
      rw [hr, Int.tmod_eq_emod_of_nonneg (by omega)]
      simp
    have hm2 : (k : Int) % (ps.length : Int) = (r : Int) := by rw [hr]; simp
    have hw : IntKind.i64.wrap (r : Int) = (r : Int) := IntWalk.i64_in _ (by clear hm1 hm2; omega)
    generalize ps.getD r 0 = z at *
    clear h0 hp hq hc hr
    go_enter Try.func18, Try.ntmps18
    go_wp2
    go_quiet (fail)
    go_wp2
    go_ret
    exact ⟨ret_int HK.out.symm, _, rfl⟩
set_option maxHeartbeats 800000 in
theorem size_any (Q n c : Nat) (a : Option Addr) (pv kv : Value) (w : World) (hq : Qv w Q (.slice a n c) pv kv) :
    Calls Try.prog 16 #[.pointer (some ⟨Q, 0, none⟩)] w fun e w' => e = .returned (.int .i64 (n : Nat)) ∧ w = w' := by
  have c0 : w.cell? ⟨Q, 0, none⟩ = some (.slice a n c) := Blk.cell hq 0
  go_enter Try.func16, Try.ntmps16
  go_wp2
  go_ret
  exact ⟨rfl, rfl⟩
set_option maxHeartbeats 800000 in
theorem take_none (Q c : Nat) (a : Option Addr) (pv kv : Value) (w : World) (hq : Qv w Q (.slice a 0 c) pv kv) :
    Calls Try.prog 15 #[.pointer (some ⟨Q, 0, none⟩)] w fun e w' => e = .returned (.tuple #[.int .i64 0, .bool false]) ∧ w = w' := by
  have c0 : w.cell? ⟨Q, 0, none⟩ = some (.slice a 0 c) := Blk.cell hq 0
  go_enter Try.func15, Try.ntmps15
  go_wp2
  go_ret2
  exact ⟨rfl, rfl⟩
theorem field_n (a b c : Int) (w : World) : (Instr.field 49 (.agg #[.int .i64 a, .int .i64 b, .int .i64 c]) 0).run Try.prog w = .ok (.int .i64 a) w := by kernel_rfl
/-- What take leaves where something is there. -/
def Took (base Q : Nat) (ts : List Th) (v pv kv : Value) (w : World) (e : Ending) (w' : World) : Prop :=
  e = .returned (.tuple #[.int .i64 (tat ts 0).n, .bool true]) ∧ ∃ ts' v', Pl w' base Q ts' v' pv kv ∧ ts.Perm (ts' ++ [tat ts 0]) ∧ (∀ k, v'.ownBlock = some k → v.ownBlock = some k ∨ w.heap.size ≤ k) ∧ Only (Own Q v) w w'
set_option maxHeartbeats 800000 in
theorem take_some (Q base n : Nat) (ts : List Th) (v pv kv : Value) (w : World) (hP : Pl w base Q ts v pv kv) (hn : ts.length = n + 1) (hs : ts.length < 1000000000) :
    Calls Try.prog 15 #[.pointer (some ⟨Q, 0, none⟩)] w (Took base Q ts v pv kv w) := by
  have HP := Lib.hid (hpop_any Q base n ts v pv kv w hP hn hs)
  obtain ⟨a, c, rfl⟩ := slice_of_own hP.own
  have c0 : w.cell? ⟨Q, 0, none⟩ = some (.slice a ts.length c) := Blk.cell hP.q 0
  have t0 : ((ts.length : Int) == 0) = false := by simpa using (show ¬ (ts.length : Int) = 0 by omega)
  have t1 : ¬ ts.length = 0 := by omega
  have ta := assert_thing (tat ts 0).n (tat ts 0).key (tat ts 0).turn
  have tf := field_n (tat ts 0).n (tat ts 0).key (tat ts 0).turn
  clear hP hn
  go_enter Try.func15, Try.ntmps15
  go_wp2_with fail
  refine HP.out.mono ?_
  rintro e w1 ⟨rfl, h1⟩
  have H1 := Lib.hid h1
  clear h1
  go_wp2
  go_ret2
  exact ⟨rfl, H1.out⟩
/-- What put leaves. -/
def Put (base Q k : Nat) (ts : List Th) (t : Th) (v pv : Value) (w : World) (e : Ending) (w' : World) : Prop :=
  e = .returned (.tuple #[]) ∧ ∃ ts' v', Pl w' base Q ts' v' pv (.int .i64 (k + 1 : Nat)) ∧ ts'.Perm (ts ++ [t]) ∧ (∀ k, v'.ownBlock = some k → v.ownBlock = some k ∨ w.heap.size ≤ k) ∧ Only (Own Q v) w w'
theorem Pl.drewN {w : World} {base Q : Nat} {ts : List Th} {v pv kv : Value} (h : Pl w base Q ts v pv kv) (n : Nat) : Pl (w.drewN n) base Q ts v pv kv := ⟨h.q, h.own, h.heap⟩
theorem Only.of_drewN {S : Nat → Prop} {w w' : World} {n : Nat} (h : Only S (w.drewN n) w') : Only S w w' := ⟨h.os, h.tape, h.output, h.size, h.block⟩
theorem hpush_drewN (Q base : Nat) (ts : List Th) (t : Th) (v pv kv : Value) (w : World) (hP : Pl w base Q ts v pv kv) (hbase : base ≤ w.heap.size) (hs : ts.length < 1000000000) (n : Nat) :
    Calls Try.prog 17 #[ipile Q, .iface 49 (tval t)] (w.drewN n) (HPushed base Q ts t v pv kv w) :=
  (hpush_any Q base ts t v pv kv (w.drewN n) (hP.drewN n) hbase hs).mono fun _ _ ⟨he, ts', v', h1, h2, h3, h4⟩ => ⟨he, ts', v', h1, h2, h3, h4.of_drewN⟩
theorem Pl.turned {w : World} {base Q : Nat} {ts : List Th} {v pv kv : Value} (h : Pl w base Q ts v pv kv) (kv' : Value) : Pl (w.setCell ⟨Q, 2, none⟩ kv') base Q ts v pv kv' :=
  ⟨Blk.set h.q 2 _, ownsRow_setCell_other (a := ⟨Q, 2, none⟩) h.own (own_ne (t' := 45) h.own h.q (by decide)) _, h.heap⟩
set_option maxHeartbeats 1600000 in
theorem put_any (Q base k : Nat) (ts : List Th) (n : Int) (ps : List Int) (v pv : Value) (w : World) (hP : Pl w base Q ts v pv (.int .i64 (k : Nat))) (hp : Pk w base pv ps) (hbase : base ≤ w.heap.size) (hs : ts.length < 1000000000) (hk : k < 1000000000) :
    Calls Try.prog 14 #[.pointer (some ⟨Q, 0, none⟩), .int .i64 n] w (Put base Q k ts ⟨n, keyOf ps k, k⟩ v pv w) := by
  have HP := Lib.hid (hpush_drewN Q base ts ⟨n, keyOf ps k, k⟩ v pv _ w hP hbase hs)
  have c2 : w.cell? ⟨Q, 2, none⟩ = some (.int .i64 (k : Nat)) := Blk.cell hP.q 2
  have HK := Lib.hid (key_any Q k base ps v pv w.drew hP.q hp)
  have HKN := Lib.hid fun n => key_any Q k base ps v pv (w.drewN n) hP.q hp
  clear hP hp
  go_enter Try.func14, Try.ntmps14
  go_wp2
  go_region_with (first | (go_at_call 18; (with_reducible refine HK.out.mono ?_); rintro e w1 ⟨rfl, n1, rfl⟩) | (go_at_call 18; (with_reducible refine (HKN.out _).mono ?_); rintro e w1 ⟨rfl, n1, rfl⟩) | (go_at_call 17; (with_reducible refine (HP.out _).mono ?_); rintro e w1 ⟨rfl, ts', v', h1, h2, h3, h4⟩; have d2 : w1.cell? ⟨Q, 2, none⟩ = some (.int .i64 (k : Nat)) := Blk.cell h1.q 2; have f2 : w1.frozen? ⟨Q, 2, none⟩ = false := Blk.free h1.q 2))
  all_goals
    have H1 := Lib.hid h1
    have H2 := Lib.hid h2
    have H3 := Lib.hid h3
    have H4 := Lib.hid h4
    clear h1 h2 h3 h4
    go_wp2
    go_end0
    exact ⟨rfl, ts', v', H1.out.turned _, H2.out, H3.out, H4.out.setCell (.inl (.inl rfl)) _⟩
end Go.Proofs.Ytjboapelelcieaa.Wk
