/-
  What heap.Push and heap.Pop do with a pile, as contracts.
-/
import Derived.Test.YtjboapelelcieaaWPush
import Derived.Test.YtjboapelelcieaaWDown
namespace Go.Proofs.Ytjboapelelcieaa.Wk
open Go.RowKit
set_option linter.unusedVariables false
set_option linter.unusedSimpArgs false
/-- The queue at Q has the pile v: a heap of the things ts, in a row of its own. -/
structure Pl (w : World) (base Q : Nat) (ts : List Th) (v pv kv : Value) : Prop where
  q : Qv w Q v pv kv
  own : w.ownsRow base 49 3 v ts.length (flat ts)
  heap : H.Heap lt ts.length (tat ts)
/-- What of memory a pile's call may turn. -/
def Own (Q : Nat) (v : Value) (k : Nat) : Prop := k = Q ∨ v.ownBlock = some k
/-- What heap.Push leaves: a heap of one thing more. -/
def HPushed (base Q : Nat) (ts : List Th) (t : Th) (v pv kv : Value) (w : World) (e : Ending) (w' : World) : Prop :=
  e = .returned (.tuple #[]) ∧ ∃ ts' v', Pl w' base Q ts' v' pv kv ∧ ts'.Perm (ts ++ [t]) ∧ (∀ k, v'.ownBlock = some k → v.ownBlock = some k ∨ w.heap.size ≤ k) ∧ Only (Own Q v) w w'
/-- What heap.Pop leaves: a heap without the first one. -/
def HPopped (base Q : Nat) (ts : List Th) (v pv kv : Value) (w : World) (e : Ending) (w' : World) : Prop :=
  e = .returned (.iface 49 (.agg #[.int .i64 (tat ts 0).n, .int .i64 (tat ts 0).key, .int .i64 (tat ts 0).turn])) ∧ ∃ ts' v', Pl w' base Q ts' v' pv kv ∧ ts.Perm (ts' ++ [tat ts 0]) ∧ (∀ k, v'.ownBlock = some k → v.ownBlock = some k ∨ w.heap.size ≤ k) ∧ Only (Own Q v) w w'
theorem tat_app (ts : List Th) (t : Th) (i : Nat) (h : i < ts.length) : tat (ts ++ [t]) i = tat ts i := by
  simp [tat, List.getD_eq_getElem?_getD, List.getElem?_append_left h]
theorem heap_congr {n : Nat} {f f' : Nat → Th} (h : ∀ i, i < n → f i = f' i) (hh : H.Heap lt n f) : H.Heap lt n f' := by
  intro i h0 hi
  have := H.par_lt h0
  rw [← h i hi, ← h (H.par i) (by omega)]
  exact hh i h0 hi
theorem Lies.own {w : World} {g cap base : Nat} {ts : List Th} (h : Lies w g cap ts) (hb : base ≤ g) : w.ownsRow base 49 3 (.slice (some ⟨g, 0, none⟩) ts.length cap) ts.length (flat ts) := h.elim fun _ h => h.own hb
theorem Lies.of_own {w : World} {g cap base : Nat} {ts : List Th} {n : Nat} (h : w.ownsRow base 49 3 (.slice (some ⟨g, 0, none⟩) n cap) n (flat ts)) (hn : ts.length = n) : Lies w g cap ts ∧ base ≤ g := by
  subst hn
  rcases h.2 with ⟨h0, _⟩ | ⟨g', cap', cur, hv, hg, hh, hn, hcm, hs, ht⟩
  · cases h0
  · cases hv
    exact ⟨⟨cur, hh, hn, hcm, hs, ht⟩, hg⟩
set_option maxHeartbeats 800000 in
theorem hpush_any (Q base : Nat) (ts : List Th) (t : Th) (v pv kv : Value) (w : World) (hP : Pl w base Q ts v pv kv) (hbase : base ≤ w.heap.size) (hs : ts.length < 1000000000) :
    Calls Try.prog 17 #[ipile Q, .iface 49 (tval t)] w (HPushed base Q ts t v pv kv w) := by
  have H1 := Lib.hid (ppush_any Q base ts t v pv kv w hP.q hP.own hbase (by omega))
  have HH := Lib.hid hP.heap
  clear hP
  have mP := m_push Q
  go_enter Try.func17, Try.ntmps17
  go_wp2_with fail
  refine H1.out.mono ?_
  rintro e w1 ⟨rfl, g, cap, hq1, hown1, hat1, ho1⟩
  have c1 : w1.cell? ⟨Q, 0, none⟩ = some (.slice (some ⟨g, 0, none⟩) (ts.length + 1) cap) := Blk.cell hq1 0
  have mL := m_len c1
  have hl : (ts ++ [t]).length = ts.length + 1 := by simp
  obtain ⟨hL1, hbg⟩ := Lies.of_own hown1 hl
  have HU := Lib.hid (up_any Q g cap ts.length (ts ++ [t]) pv kv w1 (by rw [hl]; exact hq1) hL1 (by
    rw [hl]
    exact (heap_congr (fun i hi => (tat_app ts t i hi).symm) HH.out).push) (by omega))
  have HQ1 := Lib.hid hq1
  have hne : Q ≠ g := At.ne hq1 hL1
  clear hown1 hL1 hq1 hl
  go_wp2_with (first | (go_at_call 38; (with_reducible refine (len_any _ _ _ _).mono ?_); rintro e w2 ⟨rfl, rfl⟩) | (go_at_call 20; (with_reducible refine HU.out.mono ?_); rintro e w2 ⟨rfl, ts', hp2, hh2, hL2, ho2⟩))
  go_end0
  have hlen : ts'.length = ts.length + 1 := by rw [hp2.length_eq]; simp
  refine ⟨rfl, ts', .slice (some ⟨g, 0, none⟩) ts'.length cap, ⟨?_, hL2.own hbg, ?_⟩, hp2, ?_, ?_⟩
  · rw [hlen]
    exact HQ1.out.only ho2 (by simpa using hne)
  · rw [hp2.length_eq]
    exact hh2
  · intro k hk
    have : g = k := by simpa [Value.ownBlock] using hk
    subst this
    exact hat1
  · refine ⟨ho2.os.trans ho1.os, ho2.tape.trans ho1.tape, ho2.output.trans ho1.output, Nat.le_trans ho1.size ho2.size, fun k hk hS => ?_⟩
    rw [ho2.block k (Nat.lt_of_lt_of_le hk ho1.size) ?_, ho1.block k hk hS]
    rintro rfl
    rcases hat1 with h | h
    · exact hS (.inr h)
    · omega
set_option maxHeartbeats 800000 in
theorem hpop_any (Q base n : Nat) (ts : List Th) (v pv kv : Value) (w : World) (hP : Pl w base Q ts v pv kv) (hn : ts.length = n + 1) (hs : ts.length < 1000000000) :
    Calls Try.prog 19 #[ipile Q] w (HPopped base Q ts v pv kv w) := by
  obtain ⟨hq, hown, hh⟩ := hP
  obtain ⟨g, cap, cur, rfl, hbg, hR⟩ := row_of_own hown (by omega)
  have c0 : w.cell? ⟨Q, 0, none⟩ = some (.slice (some ⟨g, 0, none⟩) ts.length cap) := Blk.cell hq 0
  have mP := m_pop Q
  have mL := m_len c0
  have mS := m_swap c0
  have hne : Q ≠ g := At.ne hq ⟨cur, hR⟩
  have HS := Lib.hid (swap_any g cap 0 n ts cur w hR (by omega) (by omega) (by omega))
  have HQ := Lib.hid hq
  have HH := Lib.hid hh
  have hd : (ts.length : Int) - 1 = (n : Int) := by omega
  have HN := Lib.hid hn
  have hnl : n < ts.length := by omega
  clear hq hown hh hR hn
  go_enter Try.func19, Try.ntmps19
  go_wp2_with (first | (go_at_call 38; (with_reducible refine (len_any _ _ _ _).mono ?_); rintro e w2 ⟨rfl, rfl⟩) | (go_at_call 40; fail) | (go_at_call 21; fail))
  refine HS.out.mono ?_
  rintro e w1 ⟨rfl, hL1, ho1⟩
  have hq1 : At w1 Q g (tsw ts 0 n).length cap pv kv := by
    rw [tsw_len]
    exact At.only HQ.out ho1 (by simpa using hne)
  have HD := Lib.hid (down_any Q g cap n (tsw ts 0 n) pv kv w1 hq1 hL1 (by rw [tsw_len]; omega) (by
    rw [tat_sw ts 0 n (by omega) hnl]
    have := HH.out
    rw [HN.out] at this
    exact this.pop) (by rw [tsw_len]; omega))
  have HQ1 := Lib.hid hq1
  clear hq1 hL1
  go_wp2_with fail
  refine HD.out.mono ?_
  rintro e w2 ⟨b, rfl, us, hp2, hk2, hh2, hL2, ho2⟩
  obtain ⟨cur2, hR2⟩ := hL2
  have hul : us.length = n + 1 := by rw [hp2.length_eq, tsw_len, HN.out]
  have hq2 : At w2 Q g us.length cap pv kv := by
    rw [hp2.length_eq]
    exact At.only HQ1.out ho2 (by simpa using hne)
  have HPOP := Lib.hid (ppop_any Q g cap n us cur2 pv kv w2 hq2 hR2 hul (by omega))
  have hlast : tat us n = tat ts 0 := by
    rw [hk2 n (Nat.le_refl _), tat_sw ts 0 n (by omega) hnl, H.sw_right]
  have HPR := Lib.hid hp2
  have HUL := Lib.hid hul
  have HLA := Lib.hid hlast
  clear hp2 hk2 hR2 hul hq2 hlast
  go_wp2_with fail
  refine HPOP.out.mono ?_
  rintro e w3 ⟨he, hq3, hL3, ho3⟩
  rw [HLA.out] at he
  subst he
  go_wp2
  go_ret
  have hl3 : (us.take n).length = n := by
    have := HUL.out
    simp
    omega
  refine ⟨rfl, us.take n, .slice (some ⟨g, 0, none⟩) (us.take n).length cap, ⟨?_, hL3.own hbg, ?_⟩, ?_, ?_, ?_⟩
  · rw [hl3]
    exact hq3
  · rw [hl3]
    refine heap_congr (fun i hi => ?_) hh2
    simp [tat, List.getD_eq_getElem?_getD, hi]
  · have h1 : us = us.take n ++ [tat us n] := by
      have hu := HUL.out
      have h2 : us.take (n + 1) = us := List.take_of_length_le (by omega)
      rw [List.take_succ_eq_append_getElem (by omega)] at h2
      have h3 : tat us n = us[n] := by simp [tat, List.getD_eq_getElem?_getD, hu]
      rw [h3]
      exact h2.symm
    rw [HLA.out] at h1
    rw [← h1]
    exact (HPR.out.trans (tsw_perm ts 0 n (by omega) hnl)).symm
  · intro k hk
    exact .inl (by simpa [Value.ownBlock] using hk)
  · have f1 : ∀ k, k < w.heap.size → k = g → Own Q (.slice (some ⟨g, 0, none⟩) ts.length cap) k := fun k _ h => .inr (by simp [Value.ownBlock, h])
    refine (ho1.mono f1).trans ((ho2.mono fun k _ h => ?_).trans (ho3.mono fun k _ h => .inl h))
    exact .inr (by simp [Value.ownBlock, h])
end Go.Proofs.Ytjboapelelcieaa.Wk
