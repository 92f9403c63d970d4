/-
  WorkAll walked: for every picks and steps it returns true.
-/
import Derived.Test.YtjboapelelcieaaWAllMem
namespace Go.Proofs.Ytjboapelelcieaa.Wk
open Go.RowKit
set_option linter.unusedVariables false
set_option linter.unusedSimpArgs false
/-- 'append' of ints that came in, nil let in, to a row of the call's own. -/
theorem wpList_append_ints {P : Program} (w : World) {ops : Array Oper} {rest : List Oper} {o : Oper} {a : Act} {Q : Exit → Act → World → Prop} (hgd : o.guard = none) (s x : Operand) (t : TypeId)
    (ho : o.op = .call { callee := .builtin .append, args := #[s, x], argTypes := #[t, t] })
    (base : Nat) (e : TypeId) (i : TypeInfo) (z : Value) (bytes : Nat) (ht : P.underlying t = some (.slice e)) (hi : P.info? e = some i) (hz : i.zero = some z)
    (hsize : i.size = 1) (hby : i.bytes = bytes) (hzs : z.cells.size = 1)
    (v : Value) (n : Nat) (xs : List Value) (hs : a.eval s = v) (hown : w.ownsRow base e 1 v n xs)
    (a' : Option Addr) (len cap : Nat) (ps : List Int) (hx : a.eval x = .slice a' len cap) (hI : IsInts w a' len cap ps)
    (h63 : n + len ≤ maxLen) (hbytes : (n + len) * bytes ≤ 140737488355328) (hbase : base ≤ w.heap.size)
    (h : ∀ v' w', w'.ownsRow base e 1 v' (n + len) (xs ++ ints ps) → w.grownBy w' v.ownBlock → wpList P ops Q rest (a.put o.dst v') w') : wpList P ops Q (o :: rest) a w := by
  cases a' with
  | none =>
    have hl0 : len = 0 := by
      rcases hI.2.2.2 with h0 | ⟨b, off, e, _⟩
      · exact h0
      · cases e
    have hc0 := hI.2.2.1 rfl
    subst hl0
    subst hc0
    have hps : ps = [] := List.eq_nil_of_length_eq_zero hI.1
    subst hps
    refine wpList_append_own_none hgd s x t ho base e i 1 ht hi v n xs hs hown hx (h v w ?_ ⟨rfl, rfl, rfl, Nat.le_refl _, fun _ _ _ => rfl⟩)
    simpa [ints] using hown
  | some ad =>
    exact wpList_append_own w hgd s x t ho base e i z 1 bytes ht hi hz hsize hby hzs (by decide) v n xs hs hown ad len cap (ints ps) hx (by rw [ints_len, hI.1]; omega) hI.news (ints_one _) h63 hbytes hbase fun v' w' h2 h3 _ => h v' w' h2 h3
theorem own_some {w : World} {base : Nat} {t : TypeId} {size n : Nat} {v : Value} {xs : List Value} (h : w.ownsRow base t size v (n + 1) xs) : ∃ g c, v = .slice (some ⟨g, 0, none⟩) (n + 1) c ∧ n + 1 ≤ c ∧ c ≤ maxLen := by
  rcases h.2 with ⟨_, h0⟩ | ⟨g, cap, cur, rfl, hg, hh, hn, hcm, hs, ht⟩
  · omega
  · exact ⟨g, cap, rfl, hn, hcm⟩
theorem ints_front {w : World} {base g c : Nat} {ps : List Int} {y : Int} (h : w.ownsRow base 3 1 (.slice (some ⟨g, 0, none⟩) (ps.length + 1) c) (ps.length + 1) (ints (ps ++ [y]))) (hm : ps.length ≤ 1000000) : IsInts w (some ⟨g, 0, none⟩) ps.length c ps := by
  refine ⟨rfl, by omega, (fun e => by cases e), .inr ⟨g, 0, rfl, fun i hi => ?_⟩⟩
  have hl : (ps ++ [y]).length = ps.length + 1 := by simp
  rw [← hl] at h
  obtain ⟨a, cap, hv, hI⟩ := ints_of_own h (by rw [hl]; omega)
  cases hv
  obtain ⟨b, off, e, hc⟩ := hI.at (by rw [hl]; omega)
  cases e
  have := hc i (by rw [hl]; omega)
  rw [this]
  simp [List.getD_eq_getElem?_getD, List.getElem?_append_left hi]
theorem Try.infoL : (Try.prog.info? 28).map (fun i => (i.zero, i.size, i.bytes)) = some (some (.agg #[.int .i64 0, .int .i64 0, .int .i64 0]), 3, 24) := by kernel_rfl
theorem news4 (w : World) (B : Nat) (hB : w.heap.size = B) (a b c : Int) (t : TypeId) : ∀ j u, [Value.int .i64 a, .int .i64 b, .int .i64 c][j]? = some u → (w.alloc (.cells #[.int .i64 a, .int .i64 b, .int .i64 c] t)).cell? ((⟨B, 0, none⟩ : Addr).add j) = some u := by
  subst hB
  exact World.news_of_block (w := w.alloc (.cells #[.int .i64 a, .int .i64 b, .int .i64 c] t)) (heap_alloc_new w _)
theorem flat_snoc (ts : List Th) (a b c : Int) : flat (ts ++ [⟨a, b, c⟩]) = flat ts ++ [.int .i64 a, .int .i64 b, .int .i64 c] := by
  rw [flat_app]
  rfl
theorem AllW.app {base L Q gi ci : Nat} {ps : List Int} {k : Nat} {m mm : List Th} {v : Value} {w0 w w1 w' : World} (h : AllW base L Q gi ci ps k m mm v w0 w) (ho : Only (fun g => v.ownBlock = some g) w w1) (hg : w1.grownBy w' v.ownBlock) {g c H : Nat} {x y z : Int}
    (hrow : w'.ownsRow base 28 3 (.slice (some ⟨g, 0, none⟩) (mm.length + 1) c) (mm.length + 1) (flat mm ++ [.int .i64 x, .int .i64 y, .int .i64 z])) (hat : v.ownBlock = some g ∨ g = H) (hH : w.heap.size ≤ H) :
    AllW base L Q gi ci ps k m (mm ++ [⟨x, y, z⟩]) (.slice (some ⟨g, 0, none⟩) (mm.length + 1) c) w0 w' := by
  refine h.rowTo (ho.grown hg (fun k hk => .inl hk)) ?_ (fun q hq => ?_)
  · rw [flat_snoc]
    have : (mm ++ [(⟨x, y, z⟩ : Th)]).length = mm.length + 1 := by simp
    rw [this]
    exact hrow
  · have e : g = q := by simpa [Value.ownBlock] using hq
    subst e
    rcases hat with h1 | h1
    · exact .inl h1
    · exact .inr (by omega)
def AllR (base L Q gi ci : Nat) (ps xs : List Int) (w0 : World) (s7 s8 s9 : Value) (w : World) : Prop :=
  ∃ (i k : Nat) (m : List Th), s8 = .int .i64 (k : Nat) ∧ s9 = .int .i64 (i : Nat) ∧ i ≤ xs.length ∧ k ≤ i ∧ m.length ≤ k ∧ AllW base L Q gi ci ps k m m s7 w0 w
def EndR (ps : List Int) (w0 : World) (t : Value) (w : World) : Prop := ∃ j : Nat, j ≤ ps.length ∧ t = .int .i64 (j : Nat) ∧ ∃ n, w = w0.drewN n
set_option maxRecDepth 100000 in
set_option maxHeartbeats 8000000 in
theorem all_law (a : Option Addr) (len cap : Nat) (ps : List Int) (a' : Option Addr) (len' cap' : Nat) (xs : List Int) (W : World) (hp : IsInts W a len cap ps) (hx : IsInts W a' len' cap' xs) :
    Calls Try.prog 3 #[.slice a len cap, .slice a' len' cap'] W fun e w' => e = .returned (.bool true) ∧ Below W.heap.size W w' := by
  obtain rfl : ps.length = len := hp.1
  obtain rfl : xs.length = len' := hx.1
  have hplm := hp.2.1
  have hlm := hx.2.1
  have HP := Lib.hid hp
  have HX := Lib.hid hx
  clear hp hx
  obtain ⟨i0, hi, hz0, hz1, hz2⟩ := info_parts Try.infoI
  have HI := Lib.hid hi
  have HZ0 := Lib.hid hz0
  have HZ1 := Lib.hid hz1
  have HZ2 := Lib.hid hz2
  clear hi hz0 hz1 hz2
  obtain ⟨j0, hi, hz0, hz1, hz2⟩ := info_parts Try.infoL
  have JI := Lib.hid hi
  have JZ0 := Lib.hid hz0
  have JZ1 := Lib.hid hz1
  have JZ2 := Lib.hid hz2
  clear hi hz0 hz1 hz2
  by_cases hbig : 20 < ps.length
  · have t1 : decide ((20 : Int) < (ps.length : Int)) = true := by simp; omega
    have t2 : decide (20 < ps.length) = true := by simp; omega
    go_enter Try.func3, Try.ntmps3
    go_wp2_with fail
    refine (begun_any W).mono ?_
    rintro e w1 ⟨rfl, hb1⟩
    go_wp2
    go_ret
    exact ⟨rfl, hb1⟩
  have t1 : decide ((20 : Int) < (ps.length : Int)) = false := by simp; omega
  have t2 : decide (20 < ps.length) = false := by simp; omega
  by_cases hbig2 : 80 < xs.length
  · have t3 : decide ((80 : Int) < (xs.length : Int)) = true := by simp; omega
    have t4 : decide (80 < xs.length) = true := by simp; omega
    go_enter Try.func3, Try.ntmps3
    go_wp2_with fail
    refine (begun_any W).mono ?_
    rintro e w1 ⟨rfl, hb1⟩
    go_wp2
    go_ret
    exact ⟨rfl, hb1⟩
  have t3 : decide ((80 : Int) < (xs.length : Int)) = false := by simp; omega
  have t4 : decide (80 < xs.length) = false := by simp; omega
  have hn80 : xs.length ≤ 80 := by omega
  have hp20 : ps.length ≤ 20 := by omega
  clear hbig hbig2
  go_enter Try.func3, Try.ntmps3
  go_wp2_with fail
  refine (begun_any W).mono ?_
  rintro e w1 ⟨rfl, hb1⟩
  have hbase1 := hb1.size
  have hown0 := World.ownsRow_made (base := W.heap.size) (e := 3) (size := 1) w1 #[] 0 hbase1 (by decide) rfl
  have HO0 := Lib.hid hown0
  have HP1 := Lib.hid ((HP.out.below hb1).below ((Below.refl _ _).alloc (Nat.le_refl _) (.cells #[] 3)))
  have HZA : Hid ((w1.alloc (.cells #[] 3)).heap.size = w1.heap.size + 1) := show _ = _ by simp
  clear hown0
  go_wp2_with (at_builtin; first
    | (refine wpList_append_ints _ rfl (.tmp 25) (.tmp 26) 22 rfl W.heap.size 3 i0 (.int .i64 0) 8 Try.underlying22 HI.out HZ0.out HZ1.out HZ2.out rfl (.slice (some ⟨w1.heap.size, 0, none⟩) 0 0) 0 [] rfl HO0.out a ps.length cap ps rfl HP1.out (by unfold maxLen; omega) (by omega) (by rw [HZA.out]; omega) ?_; intro v1 w2 hown1 hgrow1; rw [Nat.zero_add, List.nil_append] at hown1; obtain ⟨a1, c1, rfl⟩ := slice_of_own hown1)
    | (refine wpList_append_own _ rfl (.tmp 27) (.tmp 28) 22 rfl W.heap.size 3 i0 (.int .i64 0) 1 8 Try.underlying22 HI.out HZ0.out HZ1.out HZ2.out rfl (by decide) (.slice a1 ps.length c1) _ _ rfl (hown1.alloc _) ⟨w2.heap.size, 0, none⟩ 1 1 [.int .i64 99] rfl rfl (cell_one_new _ _ _) (by intro u hu; simp at hu; subst hu; rfl) (by unfold maxLen; omega) (by omega) (by have := hgrow1.size; rw [HZA.out] at this; simp; omega) ?_; intro v2 w3 hown2 hgrow2 _; obtain ⟨gi, ci, rfl, hci, hcm⟩ := own_some hown2; unfold maxLen at hcm))
  have hown3 : w3.ownsRow W.heap.size 3 1 (.slice (some ⟨gi, 0, none⟩) (ps.length + 1) ci) (ps.length + 1) (ints (ps ++ [99])) := by simpa [ints] using hown2
  have hs2 := hgrow1.size
  rw [HZA.out] at hs2
  have hs3 := hgrow2.size
  have HZB : Hid ((w2.alloc (.cells #[.int .i64 99] 3)).heap.size = w2.heap.size + 1) := show _ = _ by simp
  rw [HZB.out] at hs3
  have hb3 : Below W.heap.size W w3 := (((hb1.alloc hbase1 _).grown hgrow1 (by rw [HZA.out]; omega) (fun k hk => by
    have : w1.heap.size = k := by simpa [Value.ownBlock] using hk
    omega)).alloc (by omega) _).grown hgrow2 (by rw [HZB.out]; omega) (fun k hk => (hown1.lt k hk).1)
  have hgi := (hown3.lt gi rfl).2
  have hbgi := (hown3.lt gi rfl).1
  have HO3 := Lib.hid hown3
  have HB3 := Lib.hid hb3
  clear hown1 hown2 hown3 hgrow1 hgrow2 hb3 HZA HZB HO0 HP1 hb1
  refine (new_any W.heap.size ps (some ⟨gi, 0, none⟩) ci w3 (by omega) (by omega) (ints_front HO3.out (by omega))).mono ?_
  rintro e w4 ⟨F, L, Q, rfl, hL, hF, hb4⟩
  have HA : Hid (AllW W.heap.size L Q gi ci ps 0 [] [] (.slice none 0 0) W w4) := show AllW _ _ _ _ _ _ _ _ _ _ _ _ from
    ⟨⟨F, hL, fun hc => (by have := hF gi hc; omega), fun g hg => (by simp [Value.ownBlock] at hg)⟩, World.ownsRow_nil _ _ _ _, own_below HO3.out hb4, HB3.out.trans (hb4.mono (by omega))⟩
  clear hL hF hb4 HO3 HB3
  go_wp2
  go_loopw [7, 8, 9, 10, 11, 12, 13] (fun s7 s8 s9 _ _ _ _ wr => AllR W.heap.size L Q gi ci ps xs W s7 s8 s9 wr) (fun _ _ s9 _ _ _ _ _ => xs.length - (intOf s9).toNat)
  case atStart => exact ⟨0, 0, [], rfl, rfl, Nat.zero_le _, Nat.le_refl _, Nat.le_refl _, HA.out⟩
  case round =>
    obtain ⟨i, k, m, rfl, rfl, hi, hki, hmk, hW⟩ := hrel
    obtain ⟨av, cv, rfl⟩ := slice_of_own hW.row
    have hwb := hW.size
    have hbel := hW.bel
    have HW := Lib.hid hW
    clear hW HA
    by_cases hil : i < xs.length
    · obtain ⟨b, off, rfl, hc⟩ := HX.out.at (by omega)
      have hlt : b < W.heap.size := World.block_lt_of_cell? W ⟨b, off + i, none⟩ (hc i hil)
      have c0 := (hbel.cell (p := ⟨b, off + i, none⟩) hlt).trans (hc i hil)
      have HC := Lib.hid (hc i hil)
      generalize xs.getD i 0 = s at c0 HC
      clear hc
      by_cases hs : 0 ≤ s
      · have t5 : decide (0 ≤ s) = true := by simpa using hs
        by_cases hp0 : ps.length = 0
        · have k1 : decide ((0 : Int) < (ps.length : Int)) = false := by simpa using hp0
          have k2 : decide (0 < ps.length) = false := by simpa using hp0
          have HZK : Hid ((0 : Int) = keyOf ps k) := show _ = _ by simp [keyOf, hp0]
          clear hp0
          go_wp2_with (at_builtin; refine wpList_append_lies _ rfl (.tmp 65) (.tmp 67) 26 rfl W.heap.size 28 j0 (.agg #[.int .i64 0, .int .i64 0, .int .i64 0]) 3 24 Try.underlying26 JI.out JZ0.out JZ1.out JZ2.out rfl (by decide) (.slice av m.length cv) m.length (flat m) rfl ((HW.out.row.alloc _).alloc _) ⟨wr.heap.size + 1, 0, none⟩ 1 1 [.int .i64 s, .int .i64 0, .int .i64 (k : Nat)] rfl rfl (news4 _ _ (by simp) _ _ _ _) (three_one _ _ _) (by decide) (by unfold maxLen; omega) (by omega) (by simp; omega) (wr.heap.size + 2) (by simp) ?_; intro g5 c5' w5 hown5 hgrow5 hat5 hlt5; have hA5 := HW.out.app (((Only.refl _ wr).alloc _).alloc _) hgrow5 hown5 hat5 (by omega); have c6 := (hA5.bel.cell (p := ⟨b, off + i, none⟩) hlt).trans HC.out; have HA5 := Lib.hid hA5; clear hA5 hown5 hgrow5 hat5)
          refine (all_push _ _ _ _ _ _ _ _ _ _ _ _ _ HA5.out (by omega) (by omega)).mono ?_
          rintro e w6 ⟨rfl, hA6⟩
          rw [← HZK.out] at hA6
          have HA6 := Lib.hid hA6
          clear hA6
          go_wp2_with fail
          refine (all_len _ _ _ _ _ _ _ _ _ _ _ _ HA6.out).mono ?_
          rintro e w7 ⟨rfl, rfl⟩
          have hl7 : (m ++ [(⟨s, 0, (k : Nat)⟩ : Th)]).length = m.length + 1 := by simp
          go_wp2
          go_roundw
          case rel => exact ⟨i + 1, k + 1, _, by go_num, by go_num, by omega, by omega, by simp; omega, HA6.out⟩
          case measure => simp [intOf]; omega
        · have k1 : decide ((0 : Int) < (ps.length : Int)) = true := by simpa using (show 0 < ps.length by omega)
          have k2 : decide (0 < ps.length) = true := by simpa using (show 0 < ps.length by omega)
          obtain ⟨b0, off0, rfl, hc⟩ := HP.out.at (by omega)
          obtain ⟨r, hr0⟩ : ∃ r, r = k % ps.length := ⟨_, rfl⟩
          have hrl : r < ps.length := by rw [hr0]; exact Nat.mod_lt _ (by omega)
          have hb0 : b0 < W.heap.size := World.block_lt_of_cell? W ⟨b0, off0 + r, none⟩ (hc r hrl)
          have c5 := (hbel.cell (p := ⟨b0, off0 + r, none⟩) hb0).trans (hc r hrl)
          have m1 : ¬ ps.length = 0 := hp0
          have m2 : ¬ (ps.length : Int) = 0 := by omega
          have m3 : (k : Int).tmod (ps.length : Int) = (r : Int) := by
            rw [hr0, Int.tmod_eq_emod_of_nonneg (by omega)]
            simp
          have m4 : (k : Int) % (ps.length : Int) = (r : Int) := by rw [hr0]; simp
          have HZK : Hid (ps.getD r 0 = keyOf ps k) := show _ = _ by simp [keyOf, hp0, hr0]
          clear hp0 hc hr0
          generalize ps.getD r 0 = z at c5 HZK
          have n0 : b0 < wr.heap.size := by omega
          have n1 : ¬ b0 = wr.heap.size := by omega
          have n2 : ¬ wr.heap.size = b0 := by omega
          go_wp2_with (at_builtin; refine wpList_append_lies _ rfl (.tmp 65) (.tmp 67) 26 rfl W.heap.size 28 j0 (.agg #[.int .i64 0, .int .i64 0, .int .i64 0]) 3 24 Try.underlying26 JI.out JZ0.out JZ1.out JZ2.out rfl (by decide) (.slice av m.length cv) m.length (flat m) rfl ((HW.out.row.alloc _).alloc _) ⟨wr.heap.size + 1, 0, none⟩ 1 1 [.int .i64 s, .int .i64 z, .int .i64 (k : Nat)] rfl rfl (news4 _ _ (by simp) _ _ _ _) (three_one _ _ _) (by decide) (by unfold maxLen; omega) (by omega) (by simp; omega) (wr.heap.size + 2) (by simp) ?_; intro g5 c5' w5 hown5 hgrow5 hat5 hlt5; have hA5 := HW.out.app (((Only.refl _ wr).alloc _).alloc _) hgrow5 hown5 hat5 (by omega); have c6 := (hA5.bel.cell (p := ⟨b, off + i, none⟩) hlt).trans HC.out; have HA5 := Lib.hid hA5; clear hA5 hown5 hgrow5 hat5)
          refine (all_push _ _ _ _ _ _ _ _ _ _ _ _ _ HA5.out (by omega) (by omega)).mono ?_
          rintro e w6 ⟨rfl, hA6⟩
          rw [← HZK.out] at hA6
          have HA6 := Lib.hid hA6
          clear hA6
          go_wp2_with fail
          refine (all_len _ _ _ _ _ _ _ _ _ _ _ _ HA6.out).mono ?_
          rintro e w7 ⟨rfl, rfl⟩
          have hl7 : (m ++ [(⟨s, z, (k : Nat)⟩ : Th)]).length = m.length + 1 := by simp
          go_wp2
          go_roundw
          case rel => exact ⟨i + 1, k + 1, _, by go_num, by go_num, by omega, by omega, by simp; omega, HA6.out⟩
          case measure => simp [intOf]; omega
      · have t5 : decide (0 ≤ s) = false := by simpa using hs
        go_wp2_with fail
        refine (lpop_any W.heap.size m _ wr HW.out.row (by omega)).mono ?_
        rintro e w5 ⟨v5, rfl, hans, n5, rfl⟩
        rcases hans with ⟨hm0, rfl⟩ | ⟨bb, hbest, rfl⟩
        · subst hm0
          have HW5 := Lib.hid (HW.out.drewN n5)
          go_wp2_with fail
          refine (all_pop0 _ _ _ _ _ _ _ _ _ _ _ HW5.out).mono ?_
          rintro e w6 ⟨rfl, rfl⟩
          go_wp2_with fail
          refine (all_len _ _ _ _ _ _ _ _ _ _ _ _ HW5.out).mono ?_
          rintro e w7 ⟨rfl, rfl⟩
          go_wp2
          go_roundw
          case rel => exact ⟨i + 1, k, [], rfl, by go_num, by omega, by omega, by simp, HW5.out⟩
          case measure => simp [intOf]; omega
        · have hbl := hbest.1
          obtain ⟨g, cap6, cur, hv, hbg, hR⟩ := row_of_own HW.out.row (by omega)
          cases hv
          have HW5 := Lib.hid (HW.out.drewN n5)
          have HBE := Lib.hid hbest
          have HOR := Lib.hid HW.out.ord
          clear hbest hR
          go_wp2_with fail
          refine (all_pop _ _ _ _ _ _ _ _ _ _ _ _ HW5.out (by omega) (by omega)).mono ?_
          rintro e w6 ⟨b6, hb6, rfl, hA6⟩
          obtain rfl : bb = b6 := HBE.out.uniq HOR.out hb6
          obtain ⟨g6, cap7, cur6, hv, _, hR6⟩ := row_of_own hA6.row (by omega)
          cases hv
          obtain ⟨e0, _, _⟩ := hR6.cells bb hbl
          have HA6 := Lib.hid hA6
          have HR6 := Lib.hid hR6
          obtain ⟨q, hq⟩ : ∃ q, q = bb + 1 := ⟨_, rfl⟩
          have hcap := hR6.fit
          have hmax := hR6.max
          unfold maxLen at hmax
          clear hb6 hA6 hR6
          obtain ⟨x, hxe⟩ : ∃ x, x = (tat m bb).n := ⟨_, rfl⟩
          rw [← hxe] at e0 ⊢
          clear hxe
          have w1' : IntKind.i64.wrap (q : Int) = (q : Int) := IntWalk.i64_in _ (by omega)
          have w2' : (bb : Int) + 1 = (q : Int) := by omega
          have i1 : (0 : Int) ≤ (bb : Int) := by omega
          have i2 : (bb : Int) ≤ (cv : Int) := by omega
          have i6 : (q : Int) ≤ (cv : Int) := by omega
          have i7 : (m.length : Int) ≤ (cv : Int) := by omega
          have i8 : bb ≤ cv := by omega
          have i9 : q ≤ cv := by omega
          have i3 : (0 : Int) ≤ (q : Int) := by omega
          have i4 : (q : Int) ≤ (m.length : Int) := by omega
          have i5 : q ≤ m.length := by omega
          obtain ⟨n1, hn1⟩ : ∃ n1, bb + (m.length - q) = n1 := ⟨_, rfl⟩
          have HQ := Lib.hid hq
          have HLE : Hid ((m.eraseIdx bb).length = n1) := show _ = _ by rw [List.length_eraseIdx, if_pos hbl]; omega
          have HL1 := Lib.hid (flat_take_len m bb (by omega))
          have HL2 := Lib.hid (flat_drop_len m q)
          have HM1 := Lib.hid (made_ad w6 W.heap.size 28 HA6.out.size)
          have HSZ : Hid ((w6.alloc (.cells #[] 28)).drew.heap.size = w6.heap.size + 1) := show _ = _ by simp
          have HRA := Lib.hid ((HR6.out.alloc (.cells #[] 28)).drew)
          have HN1 := Lib.hid hn1
          have hsz6 := HA6.out.size
          have hg6 := HR6.out.blk.lt
          clear hq hn1
          by_cases hqc : cv = q
          · subst hqc
            go_wp2_with fail
            go_region_law (first
              | (refine step_append_any _ (by rfl) (.tmp 107) (.tmp 110) 26 (by rfl) W.heap.size 28 j0 (.agg #[.int .i64 0, .int .i64 0, .int .i64 0]) 3 24 Try.underlying26 JI.out JZ0.out JZ1.out JZ2.out rfl (by decide) w6.heap.size 0 0 [] (by rfl) HM1.out ⟨g, 0, none⟩ bb cv (flat (m.take bb)) (by rfl) HL1.out (HRA.out.news_take bb) (flat_one _) (by unfold maxLen; omega) (by omega) (by rw [HSZ.out]; omega) bb (Nat.zero_add _) ?_; intro g7 c7 w7 hown7 hgrow7 hat7 hlt7; rw [List.nil_append] at hown7; have hs7 := hgrow7.size; rw [HSZ.out] at hs7 hat7; have HR7 := Lib.hid (HRA.out.grown hgrow7 (by intro e; cases e; omega)); have hg7 : w6.heap.size ≤ g7 := by omega)
              | (refine step_append_any _ (by rfl) (.tmp 111) (.tmp 115) 26 (by rfl) W.heap.size 28 j0 (.agg #[.int .i64 0, .int .i64 0, .int .i64 0]) 3 24 Try.underlying26 JI.out JZ0.out JZ1.out JZ2.out rfl (by decide) g7 bb c7 (flat (m.take bb)) (by rfl) hown7 ⟨g, 0, none⟩ 0 0 (flat (m.drop cv)) (by rfl) (by rw [HL2.out]; omega) (news_none hcap) (flat_one _) (by unfold maxLen; omega) (by omega) (by omega) n1 (by have := HN1.out; omega) ?_; intro g8 c8 w8 hown8 hgrow8 hat8 hlt8; have hg8 : w6.heap.size ≤ g8 := by omega))
            all_goals
              rw [HQ.out] at hown8
              have hA8 := HA6.out.cut hgrow7 hg7 hgrow8 hg8 HLE.out hown8
              have HA8 := Lib.hid hA8
              have HLN := all_len _ _ _ _ _ _ _ _ _ _ _ _ hA8
              rw [HLE.out] at HLN
              have HLN := Lib.hid HLN
              clear hA8 hown8 hgrow8 hgrow7 hown7 hat7 hat8 hlt7 hlt8 HR7
              go_wp2_with fail
              refine HLN.out.mono ?_
              rintro e w9 ⟨rfl, rfl⟩
              go_wp2
              go_roundw
              case rel => exact ⟨i + 1, k, m.eraseIdx bb, rfl, by go_num, by omega, by omega, by rw [HLE.out]; have := HN1.out; omega, HA8.out⟩
              case measure => simp [intOf]; omega
          · have hqc2 : ¬ q = cv := by omega
            have hqc3 : ¬ (cv : Int) = (q : Int) := by omega
            have hqc4 : ¬ (q : Int) = (cv : Int) := by omega
            go_wp2_with fail
            go_region_law (first
              | (refine step_append_any _ (by rfl) (.tmp 107) (.tmp 110) 26 (by rfl) W.heap.size 28 j0 (.agg #[.int .i64 0, .int .i64 0, .int .i64 0]) 3 24 Try.underlying26 JI.out JZ0.out JZ1.out JZ2.out rfl (by decide) w6.heap.size 0 0 [] (by rfl) HM1.out ⟨g, 0, none⟩ bb cv (flat (m.take bb)) (by rfl) HL1.out (HRA.out.news_take bb) (flat_one _) (by unfold maxLen; omega) (by omega) (by rw [HSZ.out]; omega) bb (Nat.zero_add _) ?_; intro g7 c7 w7 hown7 hgrow7 hat7 hlt7; rw [List.nil_append] at hown7; have hs7 := hgrow7.size; rw [HSZ.out] at hs7 hat7; have HR7 := Lib.hid (HRA.out.grown hgrow7 (by intro e; cases e; omega)); have hg7 : w6.heap.size ≤ g7 := by omega)
              | (refine step_append_any _ (by rfl) (.tmp 111) (.tmp 115) 26 (by rfl) W.heap.size 28 j0 (.agg #[.int .i64 0, .int .i64 0, .int .i64 0]) 3 24 Try.underlying26 JI.out JZ0.out JZ1.out JZ2.out rfl (by decide) g7 bb c7 (flat (m.take bb)) (by rfl) hown7 ⟨g, q * 3, none⟩ (m.length - q) (cv - q) (flat (m.drop q)) (by rfl) HL2.out (HR7.out.news_drop q i5) (flat_one _) (by unfold maxLen; omega) (by omega) (by omega) n1 HN1.out ?_; intro g8 c8 w8 hown8 hgrow8 hat8 hlt8; have hg8 : w6.heap.size ≤ g8 := by omega))
            all_goals
              rw [HQ.out] at hown8
              have hA8 := HA6.out.cut hgrow7 hg7 hgrow8 hg8 HLE.out hown8
              have HA8 := Lib.hid hA8
              have HLN := all_len _ _ _ _ _ _ _ _ _ _ _ _ hA8
              rw [HLE.out] at HLN
              have HLN := Lib.hid HLN
              clear hA8 hown8 hgrow8 hgrow7 hown7 hat7 hat8 hlt7 hlt8 HR7
              go_wp2_with fail
              refine HLN.out.mono ?_
              rintro e w9 ⟨rfl, rfl⟩
              go_wp2
              go_roundw
              case rel => exact ⟨i + 1, k, m.eraseIdx bb, rfl, by go_num, by omega, by omega, by rw [HLE.out]; have := HN1.out; omega, HA8.out⟩
              case measure => simp [intOf]; omega
    · have HIN := Lib.hid (ints_front HW.out.inn (by omega))
      go_wp2
      go_loopw [14] (fun s14 wf => EndR ps wr s14 wf) (fun s14 _ => ps.length - (intOf s14).toNat)
      case atStart => exact ⟨0, Nat.zero_le _, rfl, 0, rfl⟩
      case round =>
        obtain ⟨j, hj, rfl, n9, rfl⟩ := hrel
        by_cases hjl : j < ps.length
        · obtain ⟨b0, off0, rfl, hc⟩ := HP.out.at (by omega)
          obtain ⟨b1, off1, hv1, hc1⟩ := HIN.out.at (by omega)
          cases hv1
          have hb0 : b0 < W.heap.size := World.block_lt_of_cell? W ⟨b0, off0 + j, none⟩ (hc j hjl)
          have x0 := (hbel.cell (p := ⟨b0, off0 + j, none⟩) hb0).trans (hc j hjl)
          have x1 := hc1 j hjl
          rw [Nat.zero_add] at x1
          generalize ps.getD j 0 = y at x0 x1
          clear hc hc1
          go_wp2
          go_quiet (fail)
          go_wp2
          go_roundw
          case rel => exact ⟨j + 1, by omega, by go_num, _, rfl⟩
          case measure => simp [intOf]; omega
        · go_wp2
          go_ret
          exact ⟨rfl, (HW.out.drewN _).bel⟩
end Go.Proofs.Ytjboapelelcieaa.Wk
