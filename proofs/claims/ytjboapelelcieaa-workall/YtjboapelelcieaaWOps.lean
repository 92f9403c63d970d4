/-
  What work's Push, Pop and Len do, as contracts.
-/
import Derived.Test.YtjboapelelcieaaWList
namespace Go.Proofs.Ytjboapelelcieaa.Wk
open Go.RowKit
set_option linter.unusedVariables false
set_option linter.unusedSimpArgs false
theorem Ls.base {w : World} {base : Nat} {F : Nat → Prop} {L Q : Nat} {ps : List Int} {k : Nat} {m : List Th} (h : Ls w base F L Q ps k m) : base ≤ w.heap.size := by
  have := h.ins L h.fl
  omega
theorem nil_put (Q : Nat) (w : World) : (binOp .eql 29 (mval 14 Q) .nilFunc).run Try.prog w = .ok (.bool false) w := by kernel_rfl
theorem nil_take (Q : Nat) (w : World) : (binOp .eql 32 (mval 15 Q) .nilFunc).run Try.prog w = .ok (.bool false) w := by kernel_rfl
theorem nil_size (Q : Nat) (w : World) : (binOp .eql 33 (mval 16 Q) .nilFunc).run Try.prog w = .ok (.bool false) w := by kernel_rfl
/-- What Push leaves. -/
def Pushes (base : Nat) (F : Nat → Prop) (L Q : Nat) (ps : List Int) (k : Nat) (m : List Th) (w : World) (e : Ending) (w' : World) : Prop :=
  e = .returned (.tuple #[]) ∧ Goes base F L Q ps k m w w'
set_option maxHeartbeats 800000 in
theorem push_any (base : Nat) (F : Nat → Prop) (L Q : Nat) (ps : List Int) (k : Nat) (m : List Th) (n : Int) (w : World) (h : Ls w base F L Q ps k m) (hk : k < 1000000000) (hm : m.length < 1000000000) :
    Calls Try.prog 9 #[.pointer (some ⟨L, 0, none⟩), .int .i64 n] w (Pushes base F L Q ps (k + 1) (m ++ [⟨n, keyOf ps k, k⟩]) w) := by
  obtain ⟨ts, v, pv, hP, hp, hperm, hF1, hF2⟩ := h.q
  have hlen := hperm.length_eq
  have HPUT := Lib.hid (put_any Q base k ts n ps v pv w hP hp h.base (by omega) hk)
  have c0 : w.cell? ⟨L, 0, none⟩ = some (mval 14 Q) := Blk.cell h.l 0
  have HG := Lib.hid fun w' ts' v' h1 h2 h3 h4 => goes_of (w' := w') (ts' := ts') (v' := v') (k' := k + 1) h hP hp hF1 hF2 h1 h3 h4 h.base h2 (h.ord.push n)
  have hnil := nil_put Q
  have HPM := Lib.hid hperm
  clear h hP hp hperm hlen hF1 hF2
  go_enter Try.func9, Try.ntmps9
  go_wp2_with fail
  refine HPUT.out.mono ?_
  rintro e w1 ⟨rfl, ts', v', h1, h2, h3, h4⟩
  have H1 := Lib.hid (HG.out w1 ts' v' h1 (h2.trans (HPM.out.append_right _)) h3 h4)
  clear h1 h2 h3 h4
  go_wp2
  go_end0
  exact ⟨rfl, H1.out⟩
set_option maxHeartbeats 800000 in
theorem len_of (base : Nat) (F : Nat → Prop) (L Q : Nat) (ps : List Int) (k : Nat) (m : List Th) (w : World) (h : Ls w base F L Q ps k m) :
    Calls Try.prog 12 #[.pointer (some ⟨L, 0, none⟩)] w fun e w' => e = .returned (.int .i64 (m.length : Nat)) ∧ w = w' := by
  obtain ⟨ts, v, pv, hP, hp, hperm, hF1, hF2⟩ := h.q
  obtain ⟨a, c, rfl⟩ := slice_of_own hP.own
  have HS := size_any Q ts.length c a pv _ w hP.q
  rw [hperm.length_eq] at HS
  have HS := Lib.hid HS
  have c0 : w.cell? ⟨L, 2, none⟩ = some (mval 16 Q) := Blk.cell h.l 2
  have hnil := nil_size Q
  clear h hP hp hperm hF1 hF2
  go_enter Try.func12, Try.ntmps12
  go_wp2_with fail
  refine HS.out.mono ?_
  rintro e w1 ⟨rfl, rfl⟩
  go_wp2
  go_ret
  exact ⟨rfl, rfl⟩
set_option maxHeartbeats 800000 in
theorem pop_none (base : Nat) (F : Nat → Prop) (L Q : Nat) (ps : List Int) (k : Nat) (w : World) (h : Ls w base F L Q ps k []) :
    Calls Try.prog 11 #[.pointer (some ⟨L, 0, none⟩)] w fun e w' => e = .returned (.tuple #[.int .i64 0, .bool false]) ∧ w = w' := by
  obtain ⟨ts, v, pv, hP, hp, hperm, hF1, hF2⟩ := h.q
  obtain ⟨a, c, rfl⟩ := slice_of_own hP.own
  have hl : ts.length = 0 := hperm.length_eq
  have hq := hP.q
  rw [hl] at hq
  have HS := Lib.hid (take_none Q c a pv _ w hq)
  have c0 : w.cell? ⟨L, 1, none⟩ = some (mval 15 Q) := Blk.cell h.l 1
  have hnil := nil_take Q
  clear h hP hp hperm hF1 hF2 hl hq
  go_enter Try.func11, Try.ntmps11
  go_wp2_with fail
  refine HS.out.mono ?_
  rintro e w1 ⟨rfl, rfl⟩
  go_wp2
  go_ret2
  exact ⟨rfl, rfl⟩
/-- What Pop leaves where something is there. -/
def Pops (base : Nat) (F : Nat → Prop) (L Q : Nat) (ps : List Int) (k : Nat) (m : List Th) (w : World) (e : Ending) (w' : World) : Prop :=
  ∃ i, Best m i ∧ e = .returned (.tuple #[.int .i64 (tat m i).n, .bool true]) ∧ Goes base F L Q ps k (m.eraseIdx i) w w'
set_option maxHeartbeats 800000 in
theorem pop_some (base : Nat) (F : Nat → Prop) (L Q : Nat) (ps : List Int) (k : Nat) (m : List Th) (w : World) (h : Ls w base F L Q ps k m) (h0 : 0 < m.length) (hm : m.length < 1000000000) :
    Calls Try.prog 11 #[.pointer (some ⟨L, 0, none⟩)] w (Pops base F L Q ps k m w) := by
  obtain ⟨ts, v, pv, hP, hp, hperm, hF1, hF2⟩ := h.q
  have hlen := hperm.length_eq
  have HT := Lib.hid (take_some Q base (ts.length - 1) ts v pv _ w hP (by omega) (by omega))
  have c0 : w.cell? ⟨L, 1, none⟩ = some (mval 15 Q) := Blk.cell h.l 1
  have HG := Lib.hid fun w' ts' v' m' h1 h2 h3 h4 => goes_of (w' := w') (ts' := ts') (v' := v') (k' := k) (m' := m') h hP hp hF1 hF2 h1 h3 h4 h.base h2
  have HB := Lib.hid fun ts' => best_of (ts' := ts') hperm hP.heap (by omega)
  have HO := Lib.hid h.ord
  have hnil := nil_take Q
  clear h hP hp hperm hlen hF1 hF2
  go_enter Try.func11, Try.ntmps11
  go_wp2_with fail
  refine HT.out.mono ?_
  rintro e w1 ⟨rfl, ts', v', h1, h2, h3, h4⟩
  obtain ⟨i, hb, hte, hpe⟩ := HB.out ts' h2
  have H1 := Lib.hid (HG.out w1 ts' v' (m.eraseIdx i) h1 hpe h3 h4 (HO.out.sub (List.eraseIdx_sublist _ _)))
  have H2 := Lib.hid hte
  have H3 := Lib.hid hb
  clear h1 h2 h3 h4 hte hpe hb
  go_wp2
  go_ret2
  exact ⟨i, H3.out, by rw [H2.out]; rfl, H1.out⟩
end Go.Proofs.Ytjboapelelcieaa.Wk
