/-
  What rel.Pairs answers, as a contract.
-/
import Derived.Test.YtafdbocepepcgaaDoorROps
namespace Go.Proofs.YtafdbocepepcgaaDoor
open Go.RowKit
set_option linter.unusedVariables false
set_option linter.unusedSimpArgs false

/-- Pairs of ints as cells. -/
def flat (ps : List (Int × Int)) : List Value := ps.flatMap fun p => [.int .i64 p.1, .int .i64 p.2]
theorem flat_len (ps : List (Int × Int)) : (flat ps).length = ps.length * 2 := by
  induction ps with
  | nil => rfl
  | cons p ps ih =>
    have e : flat (p :: ps) = .int .i64 p.1 :: .int .i64 p.2 :: flat ps := rfl
    rw [e]
    simp [ih]
    omega
theorem flat_at : ∀ (ps : List (Int × Int)) (i : Nat), i < ps.length → (flat ps)[i * 2]? = some (.int .i64 (ps.getD i (0, 0)).1) ∧ (flat ps)[i * 2 + 1]? = some (.int .i64 (ps.getD i (0, 0)).2)
  | [], i, h => by simp at h
  | p :: ps, 0, _ => ⟨rfl, rfl⟩
  | p :: ps, i + 1, h => by
    have e : flat (p :: ps) = .int .i64 p.1 :: .int .i64 p.2 :: flat ps := rfl
    have := flat_at ps i (by simpa using h)
    rw [e, show (i + 1) * 2 = i * 2 + 1 + 1 by omega, show i * 2 + 1 + 1 + 1 = (i * 2 + 1) + 1 + 1 by omega]
    simpa using this
theorem flat_snoc (ps : List (Int × Int)) (x y : Int) : flat (ps ++ [(x, y)]) = flat ps ++ [.int .i64 x, .int .i64 y] := by simp [flat]
/-- A slice of pairs that came in, or was made: its pairs are ps. -/
def IsPairs (w : World) (a : Option Addr) (len : Nat) (ps : List (Int × Int)) : Prop :=
  ps.length = len ∧ len ≤ 4611686018427387904 ∧ (len = 0 ∨ ∃ b off, a = some ⟨b, off, none⟩ ∧ ∀ i, i < len → w.cell? ⟨b, off + i * 2, none⟩ = some (.int .i64 (ps.getD i (0, 0)).1) ∧ w.cell? ⟨b, off + i * 2 + 1, none⟩ = some (.int .i64 (ps.getD i (0, 0)).2))
theorem IsPairs.below {w w' : World} {a : Option Addr} {len : Nat} {ps : List (Int × Int)} (h : IsPairs w a len ps) (hb : Below w.heap.size w w') : IsPairs w' a len ps := by
  obtain ⟨hl, hm, h | ⟨b, off, rfl, hc⟩⟩ := h
  · exact ⟨hl, hm, .inl h⟩
  · refine ⟨hl, hm, .inr ⟨b, off, rfl, fun i hi => ?_⟩⟩
    obtain ⟨h0, h1⟩ := hc i hi
    rw [hb.cell (p := ⟨b, off + i * 2, none⟩) (World.block_lt_of_cell? w _ h0), hb.cell (p := ⟨b, off + i * 2 + 1, none⟩) (World.block_lt_of_cell? w _ h1)]
    exact ⟨h0, h1⟩
theorem IsPairs.at {w : World} {a : Option Addr} {len : Nat} {ps : List (Int × Int)} (h : IsPairs w a len ps) (h0 : 0 < len) : ∃ b off, a = some ⟨b, off, none⟩ ∧ ∀ i, i < len → w.cell? ⟨b, off + i * 2, none⟩ = some (.int .i64 (ps.getD i (0, 0)).1) ∧ w.cell? ⟨b, off + i * 2 + 1, none⟩ = some (.int .i64 (ps.getD i (0, 0)).2) := by
  obtain ⟨_, _, h | h⟩ := h
  · omega
  · exact h
theorem pairs_of_own {w : World} {base : Nat} {v : Value} {ps : List (Int × Int)} (h : w.ownsRow base 28 2 v ps.length (flat ps)) (hm : ps.length ≤ 4611686018427387904) : ∃ a cap, v = .slice a ps.length cap ∧ IsPairs w a ps.length ps := by
  rcases h.2 with ⟨rfl, h0⟩ | ⟨g, cap, cur, rfl, hg, hh, hn, hcm, hs, ht⟩
  · exact ⟨none, 0, by rw [h0], rfl, hm, .inl h0⟩
  · refine ⟨some ⟨g, 0, none⟩, cap, rfl, rfl, hm, .inr ⟨g, 0, rfl, fun i hi => ?_⟩⟩
    obtain ⟨h1, h2⟩ := flat_at ps i hi
    have hB : Blk w g 28 cur := hh
    have key : ∀ k v, (flat ps)[k]? = some v → w.cell? ⟨g, 0 + k, none⟩ = some v := by
      intro k v hv
      rw [Nat.zero_add, hB.cell]
      rw [← ht, List.getElem?_take] at hv
      split at hv
      · simpa using hv
      · cases hv
    exact ⟨key _ _ h1, by have := key _ _ h2; rw [Nat.zero_add] at this ⊢; exact this⟩
/-- A call that answers a list of pairs, and turns nothing that was there. -/
def GivesP (ps : List (Int × Int)) (w : World) (e : Ending) (w' : World) : Prop := ∃ a cap, e = .returned (.slice a ps.length cap) ∧ IsPairs w' a ps.length ps ∧ Below w.heap.size w w'

theorem Tryd.infoP : (Tryd.prog.info? 28).map (fun i => (i.zero, i.size, i.bytes)) = some (some (.agg #[.int .i64 0, .int .i64 0]), 2, 16) := by kernel_rfl
/-- What a receiver at block B holds while pairs are listed. -/
def PFill (w0 : World) (B : Nat) (ps : List (Int × Int)) (w : World) : Prop :=
  ∃ v, Blk w B 61 #[v] ∧ w.ownsRow w0.heap.size 28 2 v ps.length (flat ps) ∧ Below w0.heap.size w0 w ∧ w0.heap.size ≤ B
theorem own_ne {w : World} {base B : Nat} {t t' : TypeId} {size n : Nat} {v : Value} {xs : List Value} {cs : Array Value} (h : w.ownsRow base t size v n xs) (hB : Blk w B t' cs) (hne : t ≠ t') : v.ownBlock ≠ some B := by
  rcases h.2 with ⟨rfl, _⟩ | ⟨g, cap, cur, rfl, _, hh, _⟩
  · simp [Value.ownBlock]
  · intro e
    have e' : g = B := by simpa [Value.ownBlock] using e
    subst e'
    exact Blk.ne (t := t) hh hB hne rfl
/-- A list of a set's numbers, whole in its block. -/
def LBlk (w : World) (g r : Nat) : Prop := ∃ cur, Blk w g 3 cur ∧ ∀ i, i < M.cnt r → cur[i]? = some (.int .i64 ((M.bi r).getD i 0))
theorem lblk_of {w : World} {base g r cap : Nat} (h : w.ownsRow base 3 1 (.slice (some ⟨g, 0, none⟩) (M.cnt r) cap) (M.cnt r) (ints (M.bi r))) : LBlk w g r := by
  have hc := fun i hi => own_cells h i hi
  rcases h.2 with ⟨h0, _⟩ | ⟨g', cap', cur, hv, hg, hh, hn, hcm, hs, ht⟩
  · cases h0
  · cases hv
    have hB : Blk w g 3 cur := hh
    refine ⟨cur, hB, fun i hi => ?_⟩
    have := hc i (by rw [M.bi_len]; exact hi)
    rw [Nat.zero_add, hB.cell] at this
    exact this
theorem pown_below {w w' : World} {base : Nat} {t : TypeId} {size n : Nat} {v : Value} {xs : List Value} (h : w.ownsRow base t size v n xs) (hb : Below w.heap.size w w') : w'.ownsRow base t size v n xs := by
  refine ⟨h.1, ?_⟩
  rcases h.2 with h0 | ⟨g, cap, cur, hv, hg, hh, r⟩
  · exact .inl h0
  · exact .inr ⟨g, cap, cur, hv, hg, (hb.block g (lt_of_block hh)).trans hh, r⟩
theorem slice_of_own {w : World} {base : Nat} {t : TypeId} {size n : Nat} {v : Value} {xs : List Value} (h : w.ownsRow base t size v n xs) : ∃ a n c, v = .slice a n c := by
  rcases h.2 with ⟨h0, _⟩ | ⟨g, cap, cur, hv, _⟩
  · exact ⟨_, _, _, h0⟩
  · exact ⟨_, _, _, hv⟩
/-- What a round of pairs.add leaves. -/
def PairR (w0 : World) (B x r : Nat) (ps : List (Int × Int)) (g2 : Nat) (k : Value) (w : World) : Prop :=
  ∃ j : Nat, j ≤ M.cnt r ∧ k = .int .i64 j ∧ PFill w0 B (ps ++ ((M.bl r).take j).map fun (y : Nat) => ((x : Int), (y : Int))) w ∧ LBlk w g2 r
def PairsTo (w0 : World) (B : Nat) (ps : List (Int × Int)) (e : Ending) (w : World) : Prop := e = .returned (.tuple #[]) ∧ PFill w0 B ps w
theorem bl_take' (r j : Nat) (y : Nat) (h : (M.bl r)[j]? = some y) : (M.bl r).take (j + 1) = (M.bl r).take j ++ [y] := by
  obtain ⟨hj, he⟩ := List.getElem?_eq_some_iff.1 h
  rw [List.take_succ_eq_append_getElem hj, he]
theorem pfill_app {w0 w w1 : World} {B x y : Nat} {v v' : Value} {ps : List (Int × Int)} (hB : Blk w B 61 #[v]) (hown : w.ownsRow w0.heap.size 28 2 v ps.length (flat ps)) (hb : Below w0.heap.size w0 w) (hB0 : w0.heap.size ≤ B)
    (hown1 : w1.ownsRow w0.heap.size 28 2 v' (ps.length + 1) (flat ps ++ [.int .i64 x, .int .i64 y])) (hg : (w.alloc (.cells #[.int .i64 x, .int .i64 y] 28)).grownBy w1 v.ownBlock) :
    PFill w0 B (ps ++ [((x : Int), (y : Int))]) (w1.setCell ⟨B, 0, none⟩ v') := by
  have hsz := hb.size
  have hB1 : Blk w1 B 61 #[v] := by
    have h1 := hB.alloc (.cells #[.int .i64 x, .int .i64 y] 28)
    have := hg.block B h1.lt (fun e => own_ne hown hB (by decide) e.symm)
    exact this.trans h1
  have hl : (ps ++ [((x : Int), (y : Int))]).length = ps.length + 1 := by simp
  refine ⟨v', ?_, ?_, ?_, hB0⟩
  · exact hB1.set 0 v'
  · rw [hl, flat_snoc]
    exact ownsRow_setCell_other hown1 (own_ne hown1 hB1 (by decide)) _
  · exact ((hb.alloc hsz _).grown hg (by simp; omega) (fun k hk => (hown.lt k hk).1)).setCell hB0 _
set_option maxHeartbeats 800000 in
theorem pairsadd_any (w0 : World) (B x r : Nat) (ps : List (Int × Int)) (w : World) (hr : r < 2 ^ 64) (h : PFill w0 B ps w) (hps : ps.length ≤ 5000) (hx : x < 64) (hT : Tb w) :
    Calls Tryd.prog 41 #[.pointer (some ⟨B, 0, none⟩), .int .i64 (x : Nat), .int .u64 r] w (PairsTo w0 B (ps ++ (M.bl r).map fun (y : Nat) => ((x : Int), (y : Int)))) := by
  obtain ⟨i0, hi, hz0, hz1, hz2⟩ := info_parts Tryd.infoP
  have HI := Lib.hid hi
  have HZ0 := Lib.hid hz0
  have HZ1 := Lib.hid hz1
  have HZ2 := Lib.hid hz2
  have hc64 := M.cnt_le r
  have HLI := Lib.hid (list_any r w hr hT.2 hT.1)
  clear hi hz0 hz1 hz2
  go_enter Tryd.func41, Tryd.ntmps41
  go_wp2_with fail
  refine HLI.out.mono ?_
  rintro e w1 ⟨g2, cap2, rfl, hownL, hb1, hT1⟩
  have hL1 := lblk_of hownL
  obtain ⟨v0, hB0, hown0, hbel0, hwB⟩ := h
  have hsz0 := hbel0.size
  have hF1 : PFill w0 B ps w1 := ⟨v0, hB0.below hb1 hB0.lt, pown_below hown0 hb1, hbel0.trans (hb1.mono hsz0), hwB⟩
  clear hownL hB0 hown0 hbel0
  go_wp2
  go_loopw [7, 11] (fun _ k wr => PairR w0 B x r ps g2 k wr) (fun _ k _ => M.cnt r - (intOf k).toNat)
  case atStart => exact ⟨0, Nat.zero_le _, rfl, by simpa using hF1, hL1⟩
  case round =>
    obtain ⟨j, hj, rfl, ⟨v, hB, hown, hbel, _⟩, cur, hLB, hLc⟩ := hrel
    by_cases hjl : j < M.cnt r
    · obtain ⟨y, hy1, hy2, hy3, hy4⟩ := M.bi_getD r j hjl
      have hc0 : wr.cell? ⟨g2, j, none⟩ = some (.int .i64 (y : Nat)) := by rw [hLB.cell, hLc j hjl, hy1]
      have HT := Lib.hid (bl_take' r j y hy2)
      have c0 : wr.cell? ⟨B, 0, none⟩ = some v := hB.cell 0
      have fB := hB.free 0
      have lB := hB.lt
      have hsz := hbel.size
      have hll : (ps ++ ((M.bl r).take j).map fun (y : Nat) => ((x : Int), (y : Int))).length ≤ 5064 := by
        have : ((M.bl r).take j).length ≤ j := List.length_take_le _ _
        simp only [List.length_append, List.length_map]
        omega
      have HN : Hid (ps ++ ((M.bl r).take (j + 1)).map (fun (y : Nat) => ((x : Int), (y : Int))) = (ps ++ ((M.bl r).take j).map fun (y : Nat) => ((x : Int), (y : Int))) ++ [((x : Int), (y : Int))]) := show _ = _ by
        rw [HT.out]
        simp
      generalize (ps ++ ((M.bl r).take j).map fun (y : Nat) => ((x : Int), (y : Int))) = qs at *
      have HLC := Lib.hid hLc
      clear hLc hy1 hy2
      go_wp2_with (at_builtin; refine wpList_append_own _ rfl (.tmp 19) (.tmp 23) 25 rfl w0.heap.size 28 i0 (.agg #[.int .i64 0, .int .i64 0]) 2 16 Tryd.underlying25 HI.out HZ0.out HZ1.out HZ2.out rfl (by decide) _ _ _ rfl (hown.alloc _) ⟨wr.heap.size, 0, none⟩ 1 1 [.int .i64 (x : Nat), .int .i64 (y : Nat)] rfl rfl (cell_two_new _ _ _ _) (by intro u hu; simp at hu; rcases hu with rfl | rfl <;> rfl) (by unfold maxLen; omega) (by omega) (by simp; omega) ?_; intro v' w2 hown2 hgrow2 _; obtain ⟨a', n', c', rfl⟩ := slice_of_own hown2; have hB2 : Blk w2 B 61 #[v] := (hgrow2.block B (by simp; omega) (fun e => own_ne hown hB (by decide) e.symm)).trans (hB.alloc _); have k0 : w2.cell? ⟨B, 0, none⟩ = some v := hB2.cell 0; have kf := hB2.free 0)
      go_roundw
      case rel =>
        refine ⟨j + 1, by omega, by go_num, ?_, cur, ?_, HLC.out⟩
        · rw [HN.out]
          exact pfill_app hB hown hbel hwB hown2 hgrow2
        · have h1 := hLB.alloc (.cells #[.int .i64 (x : Nat), .int .i64 (y : Nat)] 28)
          have h2 : Blk w2 g2 3 cur := (hgrow2.block g2 h1.lt (fun e => own_ne hown hLB (by decide) e.symm)).trans h1
          exact h2.far (p := ⟨B, 0, none⟩) (h2.ne hB2 (by decide)) _
      case measure => simp [intOf]; omega
    · obtain rfl : j = M.cnt r := by omega
      have HT : Hid ((M.bl r).take (M.cnt r) = M.bl r) := List.take_of_length_le (Nat.le_refl _)
      go_wp2
      go_end0
      refine ⟨rfl, ?_⟩
      rw [HT.out] at hown
      exact ⟨v, hB, hown, hbel, hwB⟩

def ipairs (ps : List (Nat × Nat)) : List (Int × Int) := ps.map fun p => ((p.1 : Int), (p.2 : Int))
theorem enters_pairs : Enters 41 := enters_of Tryd.func41 (by kernel_rfl) rfl
theorem pairs_snoc (xs l : List Nat) (x : Nat) : ipairs (R.pairsOf xs (l ++ [x])) = ipairs (R.pairsOf xs l) ++ (M.bl (R.row xs x)).map fun (y : Nat) => ((x : Int), (y : Int)) := by
  simp [ipairs, R.pairsOf, List.flatMap_append, List.map_map, Function.comp_def]
theorem pairs_len (xs : List Nat) : ∀ (l : List Nat), (R.pairsOf xs l).length ≤ 64 * l.length
  | [] => by simp [R.pairsOf]
  | x :: l => by
    have := pairs_len xs l
    have := M.cnt_le (R.row xs x)
    have e : (R.pairsOf xs (x :: l)).length = M.cnt (R.row xs x) + (R.pairsOf xs l).length := by simp [R.pairsOf, M.cnt]
    rw [e, List.length_cons]
    omega
set_option maxHeartbeats 400000 in
theorem pairsR_any (a : Option Addr) (len cap : Nat) (xs : List Nat) (w : World) (hx : IsWords w a len xs) (hT : Tb w) :
    Calls Tryd.prog 15 #[.slice a len cap] w (GivesP (ipairs (R.pairsR xs)) w) := by
  obtain rfl : xs.length = len := hx.1
  have HM := may_any' a xs.length cap xs w hx hT
  cases hm : R.mayR xs
  · have e0 : ipairs (R.pairsR xs) = [] := by simp [R.pairsR, hm, ipairs]
    rw [e0]
    rw [hm] at HM
    have HM := Lib.hid HM
    clear e0
    go_enter Tryd.func15, Tryd.ntmps15
    go_wp2_with fail
    refine HM.out.mono ?_
    rintro e w' ⟨rfl, hb⟩
    go_wp2
    go_ret
    exact ⟨none, 0, rfl, ⟨rfl, by decide, .inl rfl⟩, hb⟩
  · have hl := R.may_len hm
    have hw := hx.2.2.1
    have HK : Hid (ipairs (R.pairsOf xs (M.bl (R.things xs.length))) = ipairs (R.pairsR xs)) := show _ = _ by
      rw [R.bl_things _ hl]
      simp [R.pairsR, hm]
    have HLEN : Hid ((ipairs (R.pairsR xs)).length ≤ 4096) := show _ ≤ _ by
      have := pairs_len xs (List.range xs.length)
      simp [R.pairsR, hm, ipairs] at this ⊢
      omega
    rw [hm] at HM
    have HM := Lib.hid HM
    have HIN := Lib.hid (in_all hl)
    have HBL : Hid ((M.bl (R.things xs.length)).length ≤ 64) := M.bl_len _
    go_enter Tryd.func15, Tryd.ntmps15
    go_wp2_with fail
    refine HM.out.mono ?_
    rintro e w1 ⟨rfl, hb1⟩
    go_wp2_with fail
    refine (things_any _ _ _ _).mono ?_
    rintro e w3 ⟨rfl, rfl⟩
    go_wp2_with fail
    refine (reach_each _ enters_pairs _ (fun l w' => PFill w w1.heap.size (ipairs (R.pairsOf xs l)) w') a xs.length cap _ xs _ (R.things_lt _) HIN.out ⟨_, Blk.new _ _ _, World.ownsRow_nil _ _ _ _, hb1.alloc hb1.size _, hb1.size⟩ (fun l w' hI => ?_) ?_).mono ?_
    · obtain ⟨_, _, _, hb, _⟩ := hI
      exact ⟨hx.below hb, hT.below hb⟩
    · rintro l x w' ⟨r, hr⟩ hI
      have hxn : x < xs.length := HIN.out x (by rw [← hr]; simp)
      have hll : l.length ≤ 64 := by
        have := HBL.out
        rw [← hr] at this
        simp at this
        omega
      have hpl := pairs_len xs l
      have hT' : Tb w' := by
        obtain ⟨_, _, _, hb, _⟩ := hI
        exact hT.below hb
      refine (pairsadd_any w _ x _ _ w' (hw x) hI (by simp [ipairs]; omega) (by omega) hT').mono ?_
      rintro e w3 ⟨rfl, hF⟩
      rw [← pairs_snoc] at hF
      exact ⟨rfl, hF⟩
    · rintro e w3 ⟨rfl, hI⟩
      rw [HK.out] at hI
      obtain ⟨v, hB, hown, hb, _⟩ := hI
      obtain ⟨a', cap', rfl, hP⟩ := pairs_of_own hown (by have := HLEN.out; omega)
      have c1 : w3.cell? ⟨w1.heap.size, 0, none⟩ = some (.slice a' (ipairs (R.pairsR xs)).length cap') := hB.cell 0
      clear hB hown
      go_wp2
      go_ret
      exact ⟨a', cap', rfl, hP, hb⟩
end Go.Proofs.YtafdbocepepcgaaDoor
