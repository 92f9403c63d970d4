/-
  What with of a maker tells, as a contract: names with one more.
-/
import Derived.Test.YtlgnagmmljdkiabMName
import Derived.Laws.AppendOwnNone
namespace Go.Proofs.Ytlgnagmmljdkiab.Lx
open Go.RowKit
open P (locB regB wth)
set_option maxRecDepth 100000
set_option linter.unusedVariables false
set_option linter.unusedSimpArgs false
theorem Try.infoStr : (Try.prog.info? 9).map (fun i => (i.zero, i.size, i.bytes)) = some (some (.string ⟨#[]⟩), 1, 16) := by kernel_rfl
def WithTo (Q : Nat → Prop) (rs : List (List UInt8)) (w : World) (e : Ending) (w' : World) : Prop := ∃ v, e = .returned v ∧ Nms (fun b => Q b ∨ w.heap.size ≤ b) w' v rs ∧ Below w.heap.size w w'
/-- None of the first names is s. -/
def NotYet (rs : List (List UInt8)) (s : List UInt8) (k : Nat) : Prop := ∀ i, i < k → rs.getD i [] ≠ s
theorem wth_in {rs : List (List UInt8)} {s : List UInt8} {i : Nat} (hi : i < rs.length) (h : rs.getD i [] = s) : wth rs s = rs := by
  unfold P.wth
  rw [if_pos]
  rw [← h, List.getD_eq_getElem?_getD, List.getElem?_eq_getElem hi]
  exact List.getElem_mem hi
theorem wth_out {rs : List (List UInt8)} {s : List UInt8} (h : NotYet rs s rs.length) : wth rs s = rs ++ [s] := by
  unfold P.wth
  rw [if_neg]
  intro hm
  obtain ⟨i, hi, e⟩ := List.getElem_of_mem hm
  refine h i hi ?_
  rw [List.getD_eq_getElem?_getD, List.getElem?_eq_getElem hi]
  exact e
def strs (rs : List (List UInt8)) : List Value := rs.map fun s => .string (bs s)
theorem strs_one (rs : List (List UInt8)) : ∀ u ∈ strs rs, u.oneCell' = true := by
  intro u hu
  obtain ⟨s, _, rfl⟩ := List.mem_map.1 hu
  rfl
theorem strs_at (rs : List (List UInt8)) (j : Nat) (u : Value) (h : (strs rs)[j]? = some u) : j < rs.length ∧ u = .string (bs (rs.getD j [])) := by
  unfold strs at h
  rw [List.getElem?_map] at h
  cases e : rs[j]? with
  | none => rw [e] at h; cases h
  | some x =>
    rw [e] at h
    obtain ⟨hl, _⟩ := List.getElem?_eq_some_iff.1 e
    refine ⟨hl, ?_⟩
    rw [List.getD_eq_getElem?_getD, e]
    exact (Option.some.inj h).symm
/-- A row of strings of one's own is a slice of names. -/
theorem nms_own {w : World} {base g cap : Nat} {rs : List (List UInt8)} {Q : Nat → Prop} (h : w.ownsRow base 9 1 (.slice (some ⟨g, 0, none⟩) rs.length cap) rs.length (strs rs)) (hq : Q g) : Nms Q w (.slice (some ⟨g, 0, none⟩) rs.length cap) rs := by
  refine ⟨_, cap, rfl, ?_⟩
  rcases h.2 with ⟨h0, _⟩ | ⟨g', cap', cur, hv, hg, hh, hn, hcm, hs, ht⟩
  · cases h0
  · cases hv
    refine .inr ⟨g, 0, rfl, hq, fun i hi => ?_⟩
    have hB : Blk w g 9 cur := hh
    rw [Nat.zero_add, hB.cell]
    have h1 : (strs rs)[i]? = some (.string (bs (rs.getD i []))) := by
      unfold strs
      rw [List.getElem?_map, List.getD_eq_getElem?_getD, List.getElem?_eq_getElem hi]
      rfl
    rw [← ht, List.getElem?_take] at h1
    split at h1
    · simpa using h1
    · cases h1
theorem new_one1 (w : World) (u : Value) (t : TypeId) : ∀ j x, [u][j]? = some x → (w.alloc (.cells #[u] t)).cell? ((⟨w.heap.size, 0, none⟩ : Addr).add j) = some x := by
  intro j x h
  have hB := Blk.new w t #[u]
  have h2 := hB.cell j
  match j, h with
  | 0, h =>
    rw [show ((⟨w.heap.size, 0, none⟩ : Addr).add 0) = ⟨w.heap.size, 0, none⟩ by simp [Addr.add]]
    rw [h2]
    simpa using h
  | j + 1, h => simp at h
theorem ownk {k n : Nat} {v : Value} (h : v.ownBlock = some k) (hv : ∀ k, v.ownBlock = some k → n ≤ k) : n ≤ k := hv k h
set_option maxHeartbeats 1600000 in
theorem with_any (rs : List (List UInt8)) (s : List UInt8) (Q : Nat → Prop) (v : Value) (w : World) (hv : Nms Q w v rs) (hm : rs.length ≤ 1000) (hnil : rs = [] → v = .slice none 0 0) :
    Calls Try.prog 54 #[v, .string (bs s)] w (WithTo Q (wth rs s) w) := by
  have HV := Lib.hid hv
  obtain ⟨a, cap, rfl, hc⟩ := hv
  have HC := Lib.hid hc
  have HN := Lib.hid hnil
  clear hc hnil
  obtain ⟨i0, hi, hz0, hz1, hz2⟩ := info_parts Try.infoStr
  have HI := Lib.hid hi
  have HZ0 := Lib.hid hz0
  have HZ1 := Lib.hid hz1
  have HZ2 := Lib.hid hz2
  clear hi hz0 hz1 hz2
  generalize hS : bs s = S at *
  have HS := Lib.hid hS
  clear hS
  go_enter Try.func54, Try.ntmps54
  go_wp2_with fail
  go_loop [5] (fun t => ∃ j : Nat, t = .int .i64 j ∧ j ≤ rs.length ∧ NotYet rs s j) (fun t => rs.length - (intOf t).toNat)
  case atStart => exact ⟨0, rfl, Nat.zero_le _, fun i hi => by omega⟩
  case round =>
    obtain ⟨j, rfl, hj, hny⟩ := hrel
    have HNY := Lib.hid hny
    clear hny
    by_cases hlt : j < rs.length
    · obtain ⟨g, off, hg, hq, hcell⟩ : ∃ g off, a = some ⟨g, off, none⟩ ∧ Q g ∧ ∀ i, i < rs.length → w.cell? ⟨g, off + i, none⟩ = some (.string (bs (rs.getD i []))) := by
        rcases HC.out with h0 | h0
        · rw [h0] at hlt
          simp at hlt
        · exact h0
      subst hg
      have hcj := hcell j hlt
      have d1 : (0 : Int) ≤ (j : Int) := by omega
      have d2 : (j : Int) < (rs.length : Int) := by omega
      have ht : ((bs (rs.getD j [])).toList == S.toList) = (rs.getD j [] == s) := by rw [toList_by, toList_by, ← HS.out, by_bs, by_bs]
      have HJ := Lib.hid (show ∀ b, (rs.getD j [] == s) = b → (b = true → rs.getD j [] = s) ∧ (b = false → rs.getD j [] ≠ s) from fun b hb => ⟨fun h => eq_of_beq (hb.trans h), fun h e => by rw [e, beq_self_eq_true] at hb; rw [← hb] at h; cases h⟩)
      clear hcell
      generalize bs (rs.getD j []) = X at *
      cases hb : (rs.getD j [] == s)
      all_goals
        rw [hb] at ht
        have HB := Lib.hid hb
        clear hb
      · go_wp2
        go_round
        case rel => exact ⟨j + 1, by go_num, by omega, fun i hi => (by
          by_cases e : i = j
          · subst e
            exact (HJ.out _ HB.out).2 rfl
          · exact HNY.out i (by omega))⟩
        case measure => simp [intOf]; omega
      · go_wp2
        go_ret
        rw [wth_in hlt ((HJ.out _ HB.out).1 rfl)]
        exact ⟨_, rfl, HV.out.mono fun g hg _ => .inl hg, Below.refl _ _⟩
    · obtain rfl : j = rs.length := by omega
      have HW := Lib.hid (wth_out HNY.out)
      rw [HW.out]
      by_cases h0 : rs = []
      · have hvv := HN.out h0
        subst h0
        have hac : a = none ∧ cap = 0 := by
          injection hvv with h1 h2 h3
          exact ⟨h1, h3⟩
        obtain ⟨rfl, rfl⟩ := hac
        clear hvv
        have hsrc := new_one1 (w.alloc (.cells #[] 9)) (.string S) 9
        rw [show (w.alloc (.cells #[] 9)).heap.size = w.heap.size + 1 by simp] at hsrc
        have HSRC := Lib.hid hsrc
        clear hsrc
        go_wp2_with (first
          | (at_builtin; refine wpList_append_own_none rfl (.tmp 19) (.tmp 20) 52 rfl w.heap.size 9 i0 1 Try.underlying52 HI.out _ 0 [] rfl (World.ownsRow_made w #[] 0 (Nat.le_refl _) (by decide) rfl) rfl ?_)
          | (at_builtin; refine wpList_append_lies _ rfl (.tmp 21) (.tmp 23) 52 rfl w.heap.size 9 i0 (.string ⟨#[]⟩) 1 16 Try.underlying52 HI.out HZ0.out HZ1.out HZ2.out rfl (by decide) (.slice (some ⟨w.heap.size, 0, none⟩) 0 0) 0 [] rfl ((World.ownsRow_made w #[] 0 (Nat.le_refl _) (by decide) rfl).alloc _) ⟨w.heap.size + 1, 0, none⟩ 1 1 [.string S] rfl rfl HSRC.out (fun u hu => by rw [List.mem_singleton.1 hu]; rfl) (by decide) (by decide) (by decide) (by simp; omega) (w.heap.size + 2) (by simp) ?_; intro g4 c4 w4 hown4 hgrow4 hat4 hlt4))
        go_ret
        have hb4 : Below w.heap.size w w4 := (((Below.refl w.heap.size w).alloc (Nat.le_refl _) (.cells #[] 9)).alloc (by simp) (.cells #[.string S] 9)).grown hgrow4 (by simp; omega) (fun k hk => ownk hk (fun k hk => Nat.le_of_eq (Option.some.inj hk)))
        refine ⟨_, rfl, nms_own (base := w.heap.size) (rs := [] ++ [s]) ?_ (.inr ?_), hb4⟩
        · simpa [strs, HS.out] using hown4
        · exact (hown4.lt g4 rfl).1
      · obtain ⟨g, off, hg, hq, hcell⟩ : ∃ g off, a = some ⟨g, off, none⟩ ∧ Q g ∧ ∀ i, i < rs.length → w.cell? ⟨g, off + i, none⟩ = some (.string (bs (rs.getD i []))) := by
          rcases HC.out with h1 | h1
          · exact absurd h1 h0
          · exact h1
        subst hg
        have hpos : 0 < rs.length := List.length_pos_iff.2 h0
        have HSRC := Lib.hid (show ∀ j u, (strs rs)[j]? = some u → (w.alloc (.cells #[] 9)).cell? ((⟨g, off, none⟩ : Addr).add j) = some u from fun j u hu => (by
          obtain ⟨hj1, rfl⟩ := strs_at rs j u hu
          have h1 := hcell j hj1
          have hb := (Below.refl w.heap.size w).alloc (Nat.le_refl _) (.cells #[] 9)
          have h2 := (hb.cell (p := ⟨g, off + j, none⟩) (World.block_lt_of_cell? w _ h1)).trans h1
          rw [show (⟨g, off, none⟩ : Addr).add j = ⟨g, off + j, none⟩ by (by_cases e : j = 0 <;> simp [Addr.add, e])]
          exact h2))
        have HSL := Lib.hid (show (strs rs).length = rs.length * 1 by simp [strs])
        clear hcell
        go_wp2_with (first
          | (at_builtin; refine wpList_append_lies _ rfl (.tmp 19) (.tmp 20) 52 rfl w.heap.size 9 i0 (.string ⟨#[]⟩) 1 16 Try.underlying52 HI.out HZ0.out HZ1.out HZ2.out rfl (by decide) (.slice (some ⟨w.heap.size, 0, none⟩) 0 0) 0 [] rfl (World.ownsRow_made w #[] 0 (Nat.le_refl _) (by decide) rfl) ⟨g, off, none⟩ rs.length cap (strs rs) rfl HSL.out HSRC.out (strs_one rs) (by omega) (by unfold maxLen; omega) (by omega) (by simp) (w.heap.size + 1) (by simp) ?_; intro g3 c3 w3 hown3 hgrow3 hat3 hlt3; have HB3 := Lib.hid (((Below.refl w.heap.size w).alloc (Nat.le_refl _) (.cells #[] 9)).grown hgrow3 (by simp) (fun k hk => Nat.le_of_eq (Option.some.inj hk))); rw [Nat.zero_add, List.nil_append] at hown3; have HO3 := Lib.hid hown3; rw [Nat.zero_add]; have HS3 := Lib.hid (new_one1 w3 (.string S) 9); have hz3 := HB3.out.size; clear hown3 hgrow3 hat3)
          | (at_builtin; refine wpList_append_lies _ rfl (.tmp 21) (.tmp 23) 52 rfl w.heap.size 9 i0 (.string ⟨#[]⟩) 1 16 Try.underlying52 HI.out HZ0.out HZ1.out HZ2.out rfl (by decide) (.slice (some ⟨g3, 0, none⟩) rs.length c3) rs.length (strs rs) rfl (HO3.out.alloc _) ⟨w3.heap.size, 0, none⟩ 1 1 [.string S] rfl rfl HS3.out (fun u hu => by rw [List.mem_singleton.1 hu]; rfl) (by decide) (by unfold maxLen; omega) (by omega) (by simp; omega) (w3.heap.size + 1) (by simp) ?_; intro g4 c4 w4 hown4 hgrow4 hat4 hlt4))
        go_ret
        have hl3 := HO3.out.lt g3 rfl
        have hb4 : Below w.heap.size w w4 := (HB3.out.alloc hz3 (.cells #[.string S] 9)).grown hgrow4 (by simp; omega) (fun k hk => ownk hk (fun k hk => by
          have e : g3 = k := Option.some.inj hk
          omega))
        have e1 : rs.length + 1 = (rs ++ [s]).length := by simp
        have e2 : strs rs ++ [.string S] = strs (rs ++ [s]) := by simp [strs, HS.out]
        rw [e1, e2] at hown4
        rw [e1]
        refine ⟨_, rfl, ?_, hb4⟩
        rw [HW.out]
        exact nms_own (Q := fun b => Q b ∨ w.heap.size ≤ b) hown4 (Or.inr (hown4.lt g4 rfl).1)
end Go.Proofs.Ytlgnagmmljdkiab.Lx
