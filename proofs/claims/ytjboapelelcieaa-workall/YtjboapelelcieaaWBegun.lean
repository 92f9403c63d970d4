/-
  What begun of layer 4's statements answers: yes. And what a list that is none answers.
-/
import Derived.Test.YtjboapelelcieaaWNew
namespace Go.Proofs.Ytjboapelelcieaa.Wk
open Go.RowKit
set_option linter.unusedVariables false
set_option linter.unusedSimpArgs false
/-- A list whose blocks lie from base on. -/
def LsE (w : World) (base L Q : Nat) (ps : List Int) (k : Nat) (m : List Th) : Prop := ∃ F, Ls w base F L Q ps k m
theorem Goes.below {w w' : World} {base : Nat} {F : Nat → Prop} {L Q : Nat} {ps : List Int} {k k0 : Nat} {m m0 : List Th} (h : Goes base F L Q ps k m w w') (h0 : Ls w base F L Q ps k0 m0) : Below base w w' := by
  obtain ⟨F', _, _, ho⟩ := h
  exact ho.below h0.base (fun g hg hF => by have := (h0.ins g hF).1; omega)
theorem Goes.ls {w w' : World} {base : Nat} {F : Nat → Prop} {L Q : Nat} {ps : List Int} {k : Nat} {m : List Th} (h : Goes base F L Q ps k m w w') : LsE w' base L Q ps k m := by
  obtain ⟨F', h, _⟩ := h
  exact ⟨F', h⟩
/-- What a call of a list leaves, seen from base. -/
def Then (v : Value) (base L Q : Nat) (ps : List Int) (k : Nat) (m : List Th) (w : World) (e : Ending) (w' : World) : Prop :=
  e = .returned v ∧ LsE w' base L Q ps k m ∧ Below base w w'
theorem push_e (base L Q : Nat) (ps : List Int) (k : Nat) (m : List Th) (n : Int) (w : World) (h : LsE w base L Q ps k m) (hk : k < 1000000000) (hm : m.length < 1000000000) :
    Calls Try.prog 9 #[.pointer (some ⟨L, 0, none⟩), .int .i64 n] w (Then (.tuple #[]) base L Q ps (k + 1) (m ++ [⟨n, keyOf ps k, k⟩]) w) := by
  obtain ⟨F, h⟩ := h
  exact (push_any base F L Q ps k m n w h hk hm).mono fun _ _ ⟨he, hg⟩ => ⟨he, hg.ls, hg.below h⟩
theorem pop_e (base L Q : Nat) (ps : List Int) (k : Nat) (m : List Th) (w : World) (h : LsE w base L Q ps k m) (i : Nat) (n : Int) (m' : List Th) (hi : i < m.length) (hB : ∀ j, Best m j → j = i) (hn : (tat m i).n = n) (hm' : m.eraseIdx i = m') (hm : m.length < 1000000000) :
    Calls Try.prog 11 #[.pointer (some ⟨L, 0, none⟩)] w (Then (.tuple #[.int .i64 n, .bool true]) base L Q ps k m' w) := by
  obtain ⟨F, h⟩ := h
  refine (pop_some base F L Q ps k m w h (by omega) hm).mono ?_
  rintro e w' ⟨j, hb, he, hg⟩
  have := hB j hb
  subst this
  subst hm'
  subst hn
  exact ⟨he, hg.ls, hg.below h⟩
theorem pop_e0 (base L Q : Nat) (ps : List Int) (k : Nat) (w : World) (h : LsE w base L Q ps k []) :
    Calls Try.prog 11 #[.pointer (some ⟨L, 0, none⟩)] w fun e w' => e = .returned (.tuple #[.int .i64 0, .bool false]) ∧ w = w' := by
  obtain ⟨F, h⟩ := h
  exact pop_none base F L Q ps k w h
theorem len_e (base L Q : Nat) (ps : List Int) (k : Nat) (m : List Th) (w : World) (h : LsE w base L Q ps k m) :
    Calls Try.prog 12 #[.pointer (some ⟨L, 0, none⟩)] w fun e w' => e = .returned (.int .i64 (m.length : Nat)) ∧ w = w' := by
  obtain ⟨F, h⟩ := h
  exact len_of base F L Q ps k m w h
theorem b1 : ∀ j, Best [⟨10, keyOf [5, 3] 0, (0 : Nat)⟩, ⟨11, keyOf [5, 3] 1, (1 : Nat)⟩, ⟨12, keyOf [5, 3] 2, (2 : Nat)⟩] j → j = 1 := by
  rintro j ⟨hj, hb⟩
  have h1 := hb 1 (by decide)
  rcases j with _ | _ | _ | j
  · exact absurd h1 (by decide)
  · rfl
  · exact absurd h1 (by decide)
  · simp at hj
    omega
theorem b2 : ∀ j, Best [⟨10, keyOf [5, 3] 0, (0 : Nat)⟩, ⟨12, keyOf [5, 3] 2, (2 : Nat)⟩] j → j = 0 := by
  rintro j ⟨hj, hb⟩
  have h1 := hb 0 (by decide)
  rcases j with _ | _ | j
  · rfl
  · exact absurd h1 (by decide)
  · simp at hj
    omega
theorem b3 : ∀ j, Best [⟨12, keyOf [5, 3] 2, (2 : Nat)⟩] j → j = 0 := by
  rintro j ⟨hj, hb⟩
  simp at hj
  omega
theorem ints_two (w : World) (t : TypeId) (x y : Int) : IsInts (w.alloc (.cells #[.int .i64 x, .int .i64 y] t)) (some ⟨w.heap.size, 0, none⟩) 2 2 [x, y] := by
  refine ⟨rfl, by decide, fun h => (by cases h), .inr ⟨_, _, rfl, fun i hi => ?_⟩⟩
  rw [Blk.cell (Blk.new w t _), Nat.zero_add]
  rcases i with _ | _ | i
  · rfl
  · rfl
  · omega
set_option maxHeartbeats 1600000 in
theorem begun_any (w : World) : Calls Try.prog 7 #[] w fun e w' => e = .returned (.bool true) ∧ Below w.heap.size w w' := by
  have HN := Lib.hid (new_any w.heap.size [5, 3] (some ⟨w.heap.size, 0, none⟩) 2 (w.alloc (.cells #[.int .i64 5, .int .i64 3] 3)) (by simp) (by decide) (ints_two w _ 5 3))
  have HW := Lib.hid ((Below.refl w.heap.size w).alloc (Nat.le_refl _) (.cells #[.int .i64 5, .int .i64 3] 3))
  have hwz : (w.alloc (.cells #[.int .i64 5, .int .i64 3] 3)).heap.size = w.heap.size + 1 := by simp
  have HWZ := Lib.hid hwz
  clear hwz
  go_enter Try.func7, Try.ntmps7
  go_wp2_with fail
  refine HN.out.mono ?_
  rintro e w1 ⟨F, L, Q, rfl, hL, _, hb1⟩
  have HB1 := Lib.hid (HW.out.trans (hb1.mono (by rw [HWZ.out]; omega)))
  have HL := Lib.hid (show LsE w1 w.heap.size L Q [5, 3] 0 [] from ⟨F, hL⟩)
  clear hL hb1 HN HW HWZ
  go_wp2_with fail
  refine (push_e _ _ _ _ _ _ _ _ HL.out (by decide) (by decide)).mono ?_
  rintro e w2 ⟨rfl, hL, hb⟩
  replace HB1 := Lib.hid (HB1.out.trans hb)
  replace HL := Lib.hid hL
  clear hL hb
  go_wp2_with fail
  refine (push_e _ _ _ _ _ _ _ _ HL.out (by decide) (by simp)).mono ?_
  rintro e w3 ⟨rfl, hL, hb⟩
  replace HB1 := Lib.hid (HB1.out.trans hb)
  replace HL := Lib.hid hL
  clear hL hb
  go_wp2_with fail
  refine (push_e _ _ _ _ _ _ _ _ HL.out (by decide) (by simp)).mono ?_
  rintro e w4 ⟨rfl, hL, hb⟩
  replace HB1 := Lib.hid (HB1.out.trans hb)
  replace HL := Lib.hid (show LsE w4 w.heap.size L Q [5, 3] 3 [⟨10, keyOf [5, 3] 0, (0 : Nat)⟩, ⟨11, keyOf [5, 3] 1, (1 : Nat)⟩, ⟨12, keyOf [5, 3] 2, (2 : Nat)⟩] from hL)
  clear hL hb
  go_wp2_with fail
  refine (pop_e _ _ _ _ _ _ _ HL.out 1 11 [⟨10, keyOf [5, 3] 0, (0 : Nat)⟩, ⟨12, keyOf [5, 3] 2, (2 : Nat)⟩] (by decide) b1 rfl rfl (by decide)).mono ?_
  rintro e w5 ⟨rfl, hL, hb⟩
  replace HB1 := Lib.hid (HB1.out.trans hb)
  replace HL := Lib.hid hL
  clear hL hb
  go_wp2_with fail
  refine (pop_e _ _ _ _ _ _ _ HL.out 0 10 [⟨12, keyOf [5, 3] 2, (2 : Nat)⟩] (by decide) b2 rfl rfl (by decide)).mono ?_
  rintro e w6 ⟨rfl, hL, hb⟩
  replace HB1 := Lib.hid (HB1.out.trans hb)
  replace HL := Lib.hid hL
  clear hL hb
  go_wp2_with fail
  refine (pop_e _ _ _ _ _ _ _ HL.out 0 12 [] (by decide) b3 rfl rfl (by decide)).mono ?_
  rintro e w7 ⟨rfl, hL, hb⟩
  replace HB1 := Lib.hid (HB1.out.trans hb)
  replace HL := Lib.hid hL
  clear hL hb
  go_wp2_with fail
  refine (pop_e0 _ _ _ _ _ _ HL.out).mono ?_
  rintro e w8 ⟨rfl, rfl⟩
  go_wp2_with fail
  refine (len_e _ _ _ _ _ _ _ HL.out).mono ?_
  rintro e w8 ⟨rfl, rfl⟩
  go_wp2
  go_ret
  exact ⟨rfl, HB1.out⟩
set_option maxHeartbeats 400000 in
theorem push_nil (n : Int) (w : World) : Calls Try.prog 9 #[.pointer none, .int .i64 n] w fun e w' => e = .returned (.tuple #[]) ∧ w = w' := by
  go_enter Try.func9, Try.ntmps9
  go_wp2
  exact bodyPost_ret (v := .tuple #[]) (by simp [results, Try.results9, go_sem]) rfl ⟨rfl, rfl⟩
set_option maxHeartbeats 400000 in
theorem pop_nil (w : World) : Calls Try.prog 11 #[.pointer none] w fun e w' => e = .returned (.tuple #[.int .i64 0, .bool false]) ∧ w = w' := by
  go_enter Try.func11, Try.ntmps11
  go_wp2
  go_ret2
  exact ⟨rfl, rfl⟩
set_option maxHeartbeats 400000 in
theorem len_nil (w : World) : Calls Try.prog 12 #[.pointer none] w fun e w' => e = .returned (.int .i64 0) ∧ w = w' := by
  go_enter Try.func12, Try.ntmps12
  go_wp2
  go_ret
  exact ⟨rfl, rfl⟩
set_option maxHeartbeats 800000 in
theorem nil_any (n : Int) (w : World) : Calls Try.prog 6 #[.int .i64 n] w fun e w' => e = .returned (.bool true) ∧ Below w.heap.size w w' := by
  go_enter Try.func6, Try.ntmps6
  go_wp2_with fail
  refine (begun_any w).mono ?_
  rintro e w1 ⟨rfl, hb⟩
  go_wp2_with fail
  refine (push_nil n w1).mono ?_
  rintro e w2 ⟨rfl, rfl⟩
  go_wp2_with fail
  refine (pop_nil w1).mono ?_
  rintro e w2 ⟨rfl, rfl⟩
  go_wp2_with fail
  refine (len_nil w1).mono ?_
  rintro e w2 ⟨rfl, rfl⟩
  go_wp2
  go_ret
  exact ⟨rfl, hb⟩
end Go.Proofs.Ytjboapelelcieaa.Wk
