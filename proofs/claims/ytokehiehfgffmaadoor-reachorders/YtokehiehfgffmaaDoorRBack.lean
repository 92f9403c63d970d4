/-
  What rel.Back answers, as a contract.
-/
import Derived.Test.YtokehiehfgffmaaDoorROps
namespace Go.Proofs.YtokehiehfgffmaaDoor
open Go.RowKit
set_option linter.unusedVariables false
set_option linter.unusedSimpArgs false

/-- x is put into the rows that l names. -/
def turn (x : Nat) (l : List Nat) (ms : List Nat) : List Nat := l.foldl (fun ms y => ms.set y (M.putN (R.row ms y) (x : Int))) ms
theorem turn_len (x : Nat) : ∀ (l ms : List Nat), (turn x l ms).length = ms.length
  | [], ms => rfl
  | y :: l, ms => by
    show (turn x l (ms.set y _)).length = _
    rw [turn_len x l]
    simp
theorem set_row (ms : List Nat) (y v i : Nat) (hy : y < ms.length) : R.row (ms.set y v) i = if y = i then v else R.row ms i := by
  simp only [R.row, List.getD, List.getElem?_set]
  by_cases h : y = i
  · subst h
    simp [hy]
  · simp [h]
theorem turn_row (x i : Nat) : ∀ (l ms : List Nat), l.Nodup → (∀ y ∈ l, y < ms.length) → R.row (turn x l ms) i = if i ∈ l then M.putN (R.row ms i) (x : Int) else R.row ms i
  | [], ms, _, _ => by simp [turn]
  | y :: l, ms, hn, hl => by
    have hy : y < ms.length := hl y (by simp)
    obtain ⟨hn1, hn2⟩ := List.nodup_cons.1 hn
    have e : turn x (y :: l) ms = turn x l (ms.set y (M.putN (R.row ms y) (x : Int))) := rfl
    rw [e, turn_row x i l _ hn2 (fun z hz => by rw [List.length_set]; exact hl z (by simp [hz])), set_row _ _ _ _ hy]
    by_cases h : y = i
    · subst h
      simp [hn1]
    · simp [h, show ¬ i = y by omega]
theorem turn_snoc (x y : Nat) (l ms : List Nat) : turn x (l ++ [y]) ms = (turn x l ms).set y (M.putN (R.row (turn x l ms) y) (x : Int)) := by simp [turn, List.foldl_append]
theorem turn_words (x : Nat) : ∀ (l ms : List Nat), R.Words ms → R.Words (turn x l ms)
  | [], ms, h => h
  | y :: l, ms, h => by
    refine turn_words x l _ fun i => ?_
    by_cases hy : y < ms.length
    · rw [set_row _ _ _ _ hy]
      split
      · exact M.putN_lt _ _ (h y)
      · exact h i
    · show R.row (ms.set y _) i < 2 ^ 64
      rw [List.set_eq_of_length_le (by omega)]
      exact h i
theorem turn_back (xs l : List Nat) (x : Nat) (hw : R.Words xs) (hm : R.mayR xs = true) : turn x (M.bl (R.row xs x)) (R.tab xs.length (R.backN xs l)) = R.tab xs.length (R.backN xs (l ++ [x])) := by
  apply R.rows_ext (by rw [turn_len, R.tab_len, R.tab_len])
  intro i hi
  have hi' : i < xs.length := by rw [turn_len, R.tab_len] at hi; exact hi
  have hl := R.may_len hm
  rw [turn_row x i _ _ ((M.bl_sorted _).imp (fun h => Nat.ne_of_lt h)) (fun y hy => by rw [R.tab_len]; exact may_in hw hm x y hy), R.tab_row, R.tab_row, if_pos hi', if_pos hi', R.backN_snoc]
  have e : i ∈ M.bl (R.row xs x) ↔ (R.row xs x).testBit i = true := by
    rw [M.mem_bl]
    constructor
    · exact fun h => h.2
    · exact fun h => ⟨by omega, h⟩
  by_cases hb : (R.row xs x).testBit i = true
  · rw [if_pos (e.2 hb), if_pos hb]
  · rw [if_neg (fun h => hb (e.1 h)), if_neg hb]

/-- What a round of turned.add leaves. -/
def TurnR (w0 : World) (B g n x r : Nat) (ms : List Nat) (g2 : Nat) (k : Value) (w : World) : Prop :=
  ∃ j : Nat, j ≤ M.cnt r ∧ k = .int .i64 j ∧ Filling w0 B g 76 #[.slice (some ⟨g, 0, none⟩) n n] (turn x ((M.bl r).take j) ms) w ∧ (∀ i, i < M.cnt r → w.cell? ⟨g2, 0 + i, none⟩ = some (.int .i64 ((M.bi r).getD i 0))) ∧ g2 ≠ g
/-- What turned.add leaves. -/
def TurnedTo (w0 : World) (B g n : Nat) (ms : List Nat) (e : Ending) (w : World) : Prop := e = .returned (.tuple #[]) ∧ Filling w0 B g 76 #[.slice (some ⟨g, 0, none⟩) n n] ms w
theorem bl_take (r j : Nat) (y : Nat) (h : (M.bl r)[j]? = some y) : (M.bl r).take (j + 1) = (M.bl r).take j ++ [y] := by
  obtain ⟨hj, he⟩ := List.getElem?_eq_some_iff.1 h
  rw [List.take_succ_eq_append_getElem hj, he]
theorem enters_turned : Enters 66 := enters_of Tryd.func66 (by kernel_rfl) rfl
set_option maxHeartbeats 800000 in
theorem turned_any (w0 : World) (B g n x r : Nat) (ms : List Nat) (w : World) (hr : r < 2 ^ 64) (h : Filling w0 B g 76 #[.slice (some ⟨g, 0, none⟩) n n] ms w) (hn : ms.length = n) (hn64 : n ≤ 64) (hx : x < 64) (hw : R.Words ms) (hT : Tb w) (hin : ∀ y ∈ M.bl r, y < n) :
    Calls Tryd.prog 66 #[.pointer (some ⟨B, 0, none⟩), .int .i64 (x : Nat), .int .u64 r] w (TurnedTo w0 B g n (turn x (M.bl r) ms)) := by
  have HIN := Lib.hid hin
  have HN := Lib.hid hn
  have hc64 := M.cnt_le r
  have HLI := Lib.hid (list_any r w hr hT.2 hT.1)
  clear hin hn
  go_enter Tryd.func66, Tryd.ntmps66
  go_wp2_with fail
  refine HLI.out.mono ?_
  rintro e w1 ⟨g2, cap2, rfl, hown, hb1, hT1⟩
  have hg2 : w.heap.size ≤ g2 := (hown.lt g2 rfl).1
  have hlist : ∀ i, i < M.cnt r → w1.cell? ⟨g2, 0 + i, none⟩ = some (.int .i64 ((M.bi r).getD i 0)) := fun i hi => own_cells hown i (by rw [M.bi_len]; exact hi)
  have hF1 := h.below hb1
  have hgg : g2 ≠ g := by have := h.2.1.lt; omega
  have HLIST := Lib.hid hlist
  clear hlist hown
  go_wp2
  go_loopw [7, 11] (fun _ k wr => TurnR w0 B g n x r ms g2 k wr) (fun _ k _ => M.cnt r - (intOf k).toNat)
  case atStart => exact ⟨0, Nat.zero_le _, rfl, hF1, HLIST.out, hgg⟩
  case round =>
    obtain ⟨j, hj, rfl, hF, hL, _⟩ := hrel
    by_cases hjl : j < M.cnt r
    · obtain ⟨y, hy1, hy2, hy3, hy4⟩ := M.bi_getD r j hjl
      have hc0 := hL j hjl
      rw [hy1, Nat.zero_add] at hc0
      have HL := Lib.hid hL
      have HT := Lib.hid (bl_take r j y hy2)
      have hyn : y < n := HIN.out y ((M.mem_bl _ _).2 ⟨hy3, hy4⟩)
      have hms := turn_words x ((M.bl r).take j) ms hw
      have hcur := hms y
      have hlen := turn_len x ((M.bl r).take j) ms
      have c0 : wr.cell? ⟨B, 0, none⟩ = some (.slice (some ⟨g, 0, none⟩) n n) := hF.1.cell 0
      have c1 : wr.cell? ⟨g, y, none⟩ = some (.int .u64 (R.row (turn x ((M.bl r).take j) ms) y : Nat)) := by rw [hF.2.1.cell, words_at _ y (by rw [hlen, HN.out]; exact hyn)]
      have f1 := hF.2.1.free y
      have hst := fun n => hF.store y (M.putN (R.row (turn x ((M.bl r).take j) ms) y) (x : Int)) n
      have hnext : TurnR w0 B g n x r ms g2 (.int .i64 ((j : Int) + 1)) ((wr.setCell ⟨g, y, none⟩ (.int .u64 (M.putN (R.row (turn x ((M.bl r).take j) ms) y) (x : Int) : Nat))).drewN 1) := by
        refine ⟨j + 1, by omega, by go_num, ?_, fun i hi => ?_, hgg⟩
        · rw [HT.out, turn_snoc]
          exact hst 1
        · have := hL i hi
          have e2 := World.cell?_setCell_other wr ⟨g, y, none⟩ ⟨g2, 0 + i, none⟩ (.int .u64 (M.putN (R.row (turn x ((M.bl r).take j) ms) y) (x : Int) : Nat)) (fun e => hgg (congrArg Addr.block e).symm)
          exact e2.trans this
      have HNEXT := Lib.hid hnext
      have i1 : (0 : Int) ≤ (y : Int) := by omega
      have i2 : (y : Int) < (n : Int) := by omega
      clear hL hy1 hy2 hst hlen hms hF hnext
      go_wp2_with fail
      go_region_with ((go_at_call 51; refine (put_any _ _ _ hcur).mono ?_; rintro e w' ⟨rfl, rfl⟩))
      all_goals (go_wp2; go_roundw)
      all_goals first | exact HNEXT.out | (simp [intOf]; omega)
    · obtain rfl : j = M.cnt r := by omega
      have HT : Hid ((M.bl r).take (M.cnt r) = M.bl r) := List.take_of_length_le (Nat.le_refl _)
      go_wp2
      go_end0
      refine ⟨rfl, ?_⟩
      rw [HT.out] at hF
      exact hF
set_option maxHeartbeats 400000 in
theorem backR_any (a : Option Addr) (len cap : Nat) (xs : List Nat) (w : World) (hx : IsWords w a len xs) (hT : Tb w) :
    Calls Tryd.prog 33 #[.slice a len cap] w (Gives (R.backR xs) w) := by
  obtain rfl : xs.length = len := hx.1
  have HM := may_any' a xs.length cap xs w hx hT
  cases hm : R.mayR xs
  · have e0 : R.backR xs = [] := by simp [R.backR, hm]
    rw [e0]
    rw [hm] at HM
    have HM := Lib.hid HM
    clear e0
    go_enter Tryd.func33, Tryd.ntmps33
    go_wp2_with fail
    refine HM.out.mono ?_
    rintro e w' ⟨rfl, hb⟩
    go_wp2
    go_ret
    exact ⟨none, 0, rfl, IsWords.nil _ _, hb⟩
  · have hl := R.may_len hm
    have hw := hx.2.2.1
    have HK : Hid (R.tab xs.length (R.backN xs (M.bl (R.things xs.length))) = R.backR xs) := show _ = _ by
      rw [R.bl_things _ hl]
      simp [R.backR, hm]
    have HLEN : Hid ((R.backR xs).length = xs.length) := show _ = _ by simp [R.backR, hm, R.tab_len]
    have HW : Hid (R.Words (R.backR xs)) := R.backR_words
    have h0 : R.tab xs.length (R.backN xs []) = List.replicate xs.length 0 := by
      apply R.rows_ext (by simp [R.tab_len])
      intro i hi
      rw [R.tab_len] at hi
      rw [R.tab_row, if_pos hi]
      simp [R.backN, R.row, List.getD, hi]
    have H0 := Lib.hid h0
    rw [hm] at HM
    have HM := Lib.hid HM
    have HIN := Lib.hid (in_all hl)
    clear h0
    go_enter Tryd.func33, Tryd.ntmps33
    go_wp2_with fail
    refine HM.out.mono ?_
    rintro e w1 ⟨rfl, hb1⟩
    go_wp2_with fail
    refine (new_any xs.length w1 hl).mono ?_
    rintro e w2 ⟨g, rfl, hg, hB, hb2⟩
    rw [List.length_replicate]
    go_wp2_with fail
    refine (things_any _ _ _ _).mono ?_
    rintro e w3 ⟨rfl, rfl⟩
    go_wp2_with fail
    have hb12 : Below w.heap.size w w2 := hb1.trans (hb2.mono hb1.size)
    have hne : w2.heap.size ≠ g := by have := hB.lt; omega
    refine (reach_each _ enters_turned _ (fun l w' => Filling w w2.heap.size g 76 #[.slice (some ⟨g, 0, none⟩) xs.length xs.length] (R.tab xs.length (R.backN xs l)) w') a xs.length cap _ xs _ (R.things_lt _) HIN.out ⟨Blk.new _ _ _, by rw [H0.out]; exact hB.alloc _, hb12.alloc hb12.size _, hb12.size, Nat.le_trans hb1.size hg, hne⟩ (fun l w' hI => ⟨hx.below hI.2.2.1, hT.below hI.2.2.1⟩) ?_).mono ?_
    · rintro l x w' ⟨r, hr⟩ hI
      have hxn : x < xs.length := HIN.out x (by rw [← hr]; simp)
      refine (turned_any w _ _ _ x _ _ w' (hw x) hI (R.tab_len _ _) hl (by omega) (R.tab_words fun i _ => R.backN_lt _ _ _) (hT.below hI.2.2.1) (may_in hw hm x)).mono ?_
      rintro e w3 ⟨rfl, hF⟩
      rw [turn_back xs l x hw hm] at hF
      exact ⟨rfl, hF⟩
    · rintro e w3 ⟨rfl, hI⟩
      rw [HK.out] at hI
      have c1 : w3.cell? ⟨w2.heap.size, 0, none⟩ = some (.slice (some ⟨g, 0, none⟩) xs.length xs.length) := hI.1.cell 0
      go_wp2
      go_ret
      refine ⟨some ⟨g, 0, none⟩, xs.length, by rw [HLEN.out]; rfl, ?_, hI.2.2.1⟩
      exact hI.2.1.words rfl (by rw [HLEN.out]; omega) HW.out
end Go.Proofs.YtokehiehfgffmaaDoor
