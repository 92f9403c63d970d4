/-
  WorkKeeps walked: for every two lists it returns true.
-/
import Derived.Test.YtjboapelelcieaaWMany
namespace Go.Proofs.Ytjboapelelcieaa.Wk
open Go.RowKit
set_option linter.unusedVariables false
set_option linter.unusedSimpArgs false
/-- The thing j, that was pushed as the j-th. -/
def th (ps : List Int) (j : Nat) : Th := ⟨(j : Nat), keyOf ps j, (j : Nat)⟩
def allT (ps : List Int) (j : Nat) : List Th := (List.range j).map (th ps)
theorem allT_succ (ps : List Int) (j : Nat) : allT ps (j + 1) = allT ps j ++ [⟨(j : Nat), keyOf ps j, (j : Nat)⟩] := by simp [allT, List.range_succ, th]
theorem allT_len (ps : List Int) (j : Nat) : (allT ps j).length = j := by simp [allT]
/-- What holds of the things that are still there, of those that are used, and of the last one. -/
structure KeepS (ps : List Int) (n i : Nat) (m : List Th) (u : List Bool) (last lastAt : Int) : Prop where
  len : m.length + i = n
  ulen : u.length = n
  mem : ∀ t ∈ m, ∃ j, j < n ∧ t = th ps j ∧ u[j]? = some false
  rise : 0 < i → ∀ t ∈ m, ¬ (t.key < last ∨ (t.key = last ∧ t.turn < lastAt))
theorem KeepS.start (ps : List Int) (n : Nat) (a b : Int) : KeepS ps n 0 (allT ps n) (List.replicate n false) a b := by
  refine ⟨by rw [allT_len]; rfl, by simp, fun t ht => ?_, fun h => by omega⟩
  obtain ⟨j, hj, rfl⟩ := List.mem_map.1 ht
  rw [List.mem_range] at hj
  exact ⟨j, hj, rfl, by simp [hj]⟩
theorem KeepS.pick {ps : List Int} {n i : Nat} {m : List Th} {u : List Bool} {last lastAt : Int} (h : KeepS ps n i m u last lastAt) {b : Nat} (hb : b < m.length) : ∃ j, j < n ∧ tat m b = th ps j ∧ u[j]? = some false ∧ (0 < i → ¬ (keyOf ps j < last ∨ (keyOf ps j = last ∧ (j : Int) < lastAt))) := by
  have e : tat m b = m[b] := by simp [tat, List.getD_eq_getElem?_getD, hb]
  have hm : tat m b ∈ m := by rw [e]; exact List.getElem_mem hb
  obtain ⟨j, hj, he, hu⟩ := h.mem _ hm
  refine ⟨j, hj, he, hu, fun h0 => ?_⟩
  have := h.rise h0 _ hm
  rw [he] at this
  exact this
theorem KeepS.step {ps : List Int} {n i : Nat} {m : List Th} {u : List Bool} {last lastAt : Int} (h : KeepS ps n i m u last lastAt) {k : Nat} (ho : Ordered ps k m) {b j : Nat} (hb : Best m b) (he : tat m b = th ps j) :
    KeepS ps n (i + 1) (m.eraseIdx b) (u.set j true) (keyOf ps j) (j : Nat) := by
  refine ⟨?_, by simpa using h.ulen, fun t ht => ?_, fun _ t ht => ?_⟩
  · have := h.len
    have := hb.1
    rw [List.length_eraseIdx, if_pos hb.1]
    omega
  · obtain ⟨j', hj', rfl, hu⟩ := h.mem t (List.eraseIdx_subset ht)
    refine ⟨j', hj', rfl, ?_⟩
    have hne : j ≠ j' := by
      rintro rfl
      obtain ⟨q, hq, hqe⟩ := List.mem_eraseIdx_iff_getElem?.1 ht
      obtain ⟨hql, hqv⟩ := List.getElem?_eq_some_iff.1 hqe
      refine hq (ho.inj hql hb.1 ?_)
      rw [he, tat_of hqe]
    rw [List.getElem?_set, if_neg hne]
    exact hu
  · obtain ⟨q, hq, hqe⟩ := List.mem_eraseIdx_iff_getElem?.1 ht
    obtain ⟨hql, hqv⟩ := List.getElem?_eq_some_iff.1 hqe
    have := hb.2 q hql
    rw [he, tat_of hqe] at this
    simp only [lt, H.klt, th] at this
    exact of_decide_eq_false this
/-- Marks as cells. -/
def bools (u : List Bool) : Array Value := (u.map Value.bool).toArray
theorem bools_set (u : List Bool) (j : Nat) (b : Bool) : (bools u).setIfInBounds j (.bool b) = bools (u.set j b) := by
  apply Array.ext'
  simp [bools]
theorem bools_at (u : List Bool) (j : Nat) (b : Bool) (h : u[j]? = some b) : (bools u)[j]? = some (.bool b) := by simp [bools, h]
theorem made_bools (n : Nat) : (madeCells (Value.bool false).cells (n * 1)).toList = (bools (List.replicate n false)).toList := by
  apply List.ext_getElem
  · simp [madeCells, bools]
  · intro i h1 h2
    simp [madeCells, bools, Value.cells, Nat.mod_one]
theorem blk_of_own {w : World} {base t g n : Nat} {xs : List Value} (h : w.ownsRow base t 1 (.slice (some ⟨g, 0, none⟩) n n) n xs) : Blk w g t xs.toArray := by
  rcases h.2 with ⟨h0, _⟩ | ⟨g', cap, cur, hv, hg, hh, hn, hm, hs, ht⟩
  · cases h0
  · cases hv
    have : cur = xs.toArray := by
      rw [← ht, List.take_of_length_le (by simp; omega)]
    unfold Blk
    rw [hh, this]
theorem Try.infoB : (Try.prog.info? 4).map (fun i => (i.zero, i.size, i.bytes)) = some (some (.bool false), 1, 1) := by kernel_rfl
def KFedR (base L Q n : Nat) (ps : List Int) (w0 : World) (t : Value) (w : World) : Prop :=
  ∃ j : Nat, j ≤ n ∧ t = .int .i64 (j : Nat) ∧ LsE w base L Q ps j (allT ps j) ∧ Below base w0 w
/-- What lies in memory between two rounds. -/
structure KeepW (base L Q U n : Nat) (ps : List Int) (m : List Th) (u : List Bool) (w0 w : World) : Prop where
  ls : ∃ F, Ls w base F L Q ps n m ∧ ¬ F U
  blk : Blk w U 4 (bools u)
  bu : base ≤ U
  bel : Below base w0 w
def KOutR (base L Q U n : Nat) (ps : List Int) (w0 : World) (s8 s9 s10 : Value) (w : World) : Prop :=
  ∃ (i : Nat) (m : List Th) (u : List Bool) (last lastAt : Int), s8 = .int .i64 last ∧ s9 = .int .i64 lastAt ∧ s10 = .int .i64 (i : Nat) ∧ KeepS ps n i m u last lastAt ∧ KeepW base L Q U n ps m u w0 w
/-- What Pop leaves here. -/
def KPopped (base L Q U n : Nat) (ps : List Int) (m : List Th) (u : List Bool) (w0 : World) (e : Ending) (w' : World) : Prop :=
  ∃ b, Best m b ∧ e = .returned (.tuple #[.int .i64 (tat m b).n, .bool true]) ∧ KeepW base L Q U n ps (m.eraseIdx b) u w0 w'
theorem keep_pop (base L Q U n : Nat) (ps : List Int) (m : List Th) (u : List Bool) (w0 w : World) (h : KeepW base L Q U n ps m u w0 w) (h0 : 0 < m.length) (hm : m.length < 1000000000) :
    Calls Try.prog 11 #[.pointer (some ⟨L, 0, none⟩)] w (KPopped base L Q U n ps m u w0) := by
  obtain ⟨F, hl, hU⟩ := h.ls
  refine (pop_some base F L Q ps n m w hl h0 hm).mono ?_
  rintro e w' ⟨b, hb, he, hg⟩
  have hbel := hg.below hl
  obtain ⟨F', hl', hF', ho⟩ := hg
  refine ⟨b, hb, he, ⟨F', hl', fun hc => ?_⟩, h.blk.only ho hU, h.bu, h.bel.trans hbel⟩
  rcases hF' U hc with h1 | h1
  · exact hU h1
  · have := h.blk.lt
    omega
theorem KeepW.mark {base L Q U n : Nat} {ps : List Int} {m : List Th} {u : List Bool} {w0 w : World} (h : KeepW base L Q U n ps m u w0 w) (j : Nat) : KeepW base L Q U n ps m (u.set j true) w0 (w.setCell ⟨U, j, none⟩ (.bool true)) := by
  obtain ⟨F, hl, hU⟩ := h.ls
  have ho : Only (· = U) w (w.setCell ⟨U, j, none⟩ (.bool true)) := (Only.refl (· = U) w).setCell (.inl rfl) _
  refine ⟨⟨F, hl.only ho (fun g hg e => by subst e; exact hU hg), hU⟩, ?_, h.bu, h.bel.setCell h.bu _⟩
  have := h.blk.set j (.bool true)
  rwa [bools_set] at this
theorem KeepW.ord {base L Q U n : Nat} {ps : List Int} {m : List Th} {u : List Bool} {w0 w : World} (h : KeepW base L Q U n ps m u w0 w) : Ordered ps n m := by
  obtain ⟨F, hl, _⟩ := h.ls
  exact hl.ord
set_option maxRecDepth 100000 in
set_option maxHeartbeats 8000000 in
theorem keeps_law (a : Option Addr) (len cap : Nat) (ps : List Int) (a' : Option Addr) (len' cap' : Nat) (xs : List Int) (W : World) (hp : IsInts W a len cap ps) (hx : IsInts W a' len' cap' xs) :
    Calls Try.prog 4 #[.slice a len cap, .slice a' len' cap'] W fun e w' => e = .returned (.bool true) ∧ Below W.heap.size W w' := by
  obtain rfl : ps.length = len := hp.1
  have hplm := hp.2.1
  have hlm := hx.2.1
  have HP := Lib.hid hp
  clear hp hx
  clear xs
  generalize len' = n at *
  obtain ⟨i0, hi, hz0, hz1, hz2⟩ := info_parts Try.infoB
  have HI := Lib.hid hi
  have HZ0 := Lib.hid hz0
  have HZ1 := Lib.hid hz1
  have HZ2 := Lib.hid hz2
  clear hi hz0 hz1 hz2
  by_cases hbig : 20 < ps.length
  · have t1 : decide ((20 : Int) < (ps.length : Int)) = true := by simp; omega
    have t2 : decide (20 < ps.length) = true := by simp; omega
    go_enter Try.func4, Try.ntmps4
    go_wp2_with fail
    refine (begun_any W).mono ?_
    rintro e w1 ⟨rfl, hb1⟩
    go_wp2
    go_ret
    exact ⟨rfl, hb1⟩
  have t1 : decide ((20 : Int) < (ps.length : Int)) = false := by simp; omega
  have t2 : decide (20 < ps.length) = false := by simp; omega
  by_cases hbig2 : 60 < n
  · have t3 : decide ((60 : Int) < (n : Int)) = true := by simp; omega
    have t4 : decide (60 < n) = true := by simp; omega
    go_enter Try.func4, Try.ntmps4
    go_wp2_with fail
    refine (begun_any W).mono ?_
    rintro e w1 ⟨rfl, hb1⟩
    go_wp2
    go_ret
    exact ⟨rfl, hb1⟩
  have t3 : decide ((60 : Int) < (n : Int)) = false := by simp; omega
  have t4 : decide (60 < n) = false := by simp; omega
  have hn60 : n ≤ 60 := by omega
  have hp20 : ps.length ≤ 20 := by omega
  clear hbig hbig2
  go_enter Try.func4, Try.ntmps4
  go_wp2_with fail
  refine (begun_any W).mono ?_
  rintro e w1 ⟨rfl, hb1⟩
  have hbase1 := hb1.size
  go_wp2_with fail
  refine (new_any W.heap.size ps a cap w1 hbase1 (by omega) (HP.out.below hb1)).mono ?_
  rintro e w2 ⟨F, L, Q, rfl, hL, _, hb2⟩
  have HB2 := Lib.hid (hb1.trans (hb2.mono hbase1))
  have HL := Lib.hid (show LsE w2 W.heap.size L Q ps 0 (allT ps 0) from ⟨F, hL⟩)
  clear hL hb2 hb1
  go_wp2
  go_loopw [6] (fun t wr => KFedR W.heap.size L Q n ps W t wr) (fun t _ => n - (intOf t).toNat)
  case atStart => exact ⟨0, Nat.zero_le _, rfl, HL.out, HB2.out⟩
  case round =>
    obtain ⟨j, hj, rfl, hT, hbr⟩ := hrel
    have hbs := hbr.size
    have HT := Lib.hid hT
    clear hT HL HB2
    by_cases hjl : j < n
    · go_wp2_with fail
      refine (push_e _ _ _ _ _ _ _ _ HT.out (by omega) (by rw [allT_len]; omega)).mono ?_
      rintro e w5 ⟨rfl, hT, hb5⟩
      rw [← allT_succ] at hT
      replace HT := Lib.hid hT
      replace hbr := hbr.trans hb5
      clear hT hb5
      go_wp2
      go_roundw
      case rel => exact ⟨j + 1, by omega, by go_num, HT.out, hbr⟩
      case measure => simp [intOf]; omega
    · obtain rfl : j = n := by omega
      go_wp2_with (at_make; refine wpList_make_full _ rfl (.tmp 38) (.tmp 38) 35 rfl W.heap.size 4 i0 (.bool false) 1 Try.underlying35 HI.out HZ0.out HZ1.out .i64 .i64 (j : Int) (j : Int) j rfl rfl rfl rfl (by rw [HZ2.out]; omega) (by unfold maxLen; omega) hbs ?_; intro w3 hown3 hgrow3)
      rw [made_bools] at hown3
      have hB3 := blk_of_own hown3
      have HK : Hid (KeepW W.heap.size L Q wr.heap.size j ps (allT ps j) (List.replicate j false) W w3) := show KeepW _ _ _ _ _ _ _ _ _ _ by
        have hb3 : Below wr.heap.size wr w3 := (Below.refl wr.heap.size wr).grown hgrow3 (Nat.le_refl _) (fun k hk => by cases hk)
        obtain ⟨F, hl⟩ := HT.out
        refine ⟨⟨F, hl.only (S := fun _ => False) (Only.of_below hb3) (fun _ _ h => h), fun hc => ?_⟩, hB3, hbs, hbr.trans (hb3.mono hbs)⟩
        have := (hl.ins _ hc).2
        omega
      have HK0 := Lib.hid (KeepS.start ps j 0 (-1))
      clear hown3 hgrow3 hB3 HT
      generalize wr.heap.size = U at *
      go_loopw [8, 9, 10, 11, 12, 13] (fun s8 s9 s10 _ _ _ wr => KOutR W.heap.size L Q U j ps W s8 s9 s10 wr) (fun _ _ s10 _ _ _ _ => j - (intOf s10).toNat)
      case atStart => exact ⟨0, _, _, 0, -1, rfl, rfl, rfl, HK0.out, HK.out⟩
      case round =>
        obtain ⟨i, m, u, last, lastAt, rfl, rfl, rfl, hS, hW⟩ := hrel
        have hml := hS.len
        have hbU := hW.bu
        by_cases hil : i < j
        · have HS := Lib.hid hS
          have HW := Lib.hid hW
          clear hS hW
          go_wp2_with fail
          refine (keep_pop _ _ _ _ _ _ _ _ _ _ HW.out (by omega) (by omega)).mono ?_
          rintro e w5 ⟨b, hb, he, hW5⟩
          obtain ⟨q, hq, hte, huq, hrise⟩ := HS.out.pick hb.1
          rw [hte] at he
          replace he : e = .returned (.tuple #[.int .i64 (q : Nat), .bool true]) := he
          subst he
          have cU : w5.cell? ⟨U, q, none⟩ = some (.bool false) := (hW5.blk.cell q).trans (bools_at u q false huq)
          have fU := hW5.blk.free q
          have HST := Lib.hid (HS.out.step HW.out.ord hb hte)
          have HW5 := Lib.hid (hW5.mark q)
          have hb5 := hW5.bel
          have HRI := Lib.hid hrise
          have g1 : decide ((q : Int) < 0) = false := by simp
          have g2 : decide ((j : Int) ≤ (q : Int)) = false := by simp; omega
          have g3 : decide (j ≤ q) = false := by simp; omega
          clear hb hte huq hW5 hrise HS HW
          by_cases hp0 : ps.length = 0
          · have k1 : decide ((0 : Int) < (ps.length : Int)) = false := by simpa using hp0
            have k2 : decide (0 < ps.length) = false := by simpa using hp0
            have HZK : Hid ((0 : Int) = keyOf ps q) := show _ = _ by simp [keyOf, hp0]
            clear hp0
            by_cases hi0 : i = 0
            · have s1 : decide ((0 : Int) < (i : Int)) = false := by simp; omega
              have s2 : decide (0 < i) = false := by simp; omega
              go_wp2
              go_roundw
              case rel =>
                refine ⟨i + 1, _, _, _, _, rfl, rfl, by go_num, ?_, HW5.out⟩
                rw [HZK.out]
                exact HST.out
              case measure => simp [intOf]; omega
            · have s1 : decide ((0 : Int) < (i : Int)) = true := by simp; omega
              have s2 : decide (0 < i) = true := by simp; omega
              have hr := HRI.out (by omega)
              rw [← HZK.out] at hr
              have s3 : decide ((0 : Int) < last) = false := by simp; omega
              by_cases hzl : (0 : Int) = last
              · have s4 : ((0 : Int) == last) = true := by simpa using hzl
                have s5 : decide ((q : Int) < lastAt) = false := by simp; omega
                clear hr hzl
                go_wp2
                go_roundw
                case rel =>
                  refine ⟨i + 1, _, _, _, _, rfl, rfl, by go_num, ?_, HW5.out⟩
                  rw [HZK.out]
                  exact HST.out
                case measure => simp [intOf]; omega
              · have s4 : ((0 : Int) == last) = false := by simpa using hzl
                clear hr hzl
                go_wp2
                go_roundw
                case rel =>
                  refine ⟨i + 1, _, _, _, _, rfl, rfl, by go_num, ?_, HW5.out⟩
                  rw [HZK.out]
                  exact HST.out
                case measure => simp [intOf]; omega
          · have k1 : decide ((0 : Int) < (ps.length : Int)) = true := by simpa using (show 0 < ps.length by omega)
            have k2 : decide (0 < ps.length) = true := by simpa using (show 0 < ps.length by omega)
            obtain ⟨b0, off, rfl, hc⟩ := HP.out.at (by omega)
            obtain ⟨r, hr0⟩ : ∃ r, r = q % ps.length := ⟨_, rfl⟩
            have hrl : r < ps.length := by rw [hr0]; exact Nat.mod_lt _ (by omega)
            have hb0 : b0 < W.heap.size := World.block_lt_of_cell? W ⟨b0, off + r, none⟩ (hc r hrl)
            have c5 := (hb5.cell (p := ⟨b0, off + r, none⟩) hb0).trans (hc r hrl)
            have n1 : ¬ b0 = U := by omega
            have n2 : ¬ U = b0 := by omega
            have m1 : ¬ ps.length = 0 := hp0
            have m2 : ¬ (ps.length : Int) = 0 := by omega
            have m3 : (q : Int).tmod (ps.length : Int) = (r : Int) := by
              rw [hr0, Int.tmod_eq_emod_of_nonneg (by omega)]
              simp
            have m4 : (q : Int) % (ps.length : Int) = (r : Int) := by rw [hr0]; simp
            have HZK : Hid (ps.getD r 0 = keyOf ps q) := show _ = _ by simp [keyOf, hp0, hr0]
            clear hp0 hc hr0
            generalize ps.getD r 0 = z at c5 HZK
            by_cases hi0 : i = 0
            · have s1 : decide ((0 : Int) < (i : Int)) = false := by simp; omega
              have s2 : decide (0 < i) = false := by simp; omega
              go_wp2
              go_roundw
              case rel =>
                refine ⟨i + 1, _, _, _, _, rfl, rfl, by go_num, ?_, HW5.out⟩
                rw [HZK.out]
                exact HST.out
              case measure => simp [intOf]; omega
            · have s1 : decide ((0 : Int) < (i : Int)) = true := by simp; omega
              have s2 : decide (0 < i) = true := by simp; omega
              have hr := HRI.out (by omega)
              rw [← HZK.out] at hr
              have s3 : decide (z < last) = false := by simp; omega
              by_cases hzl : z = last
              · have s4 : (z == last) = true := by simpa using hzl
                have s5 : decide ((q : Int) < lastAt) = false := by simp; omega
                clear hr hzl
                go_wp2
                go_roundw
                case rel =>
                  refine ⟨i + 1, _, _, _, _, rfl, rfl, by go_num, ?_, HW5.out⟩
                  rw [HZK.out]
                  exact HST.out
                case measure => simp [intOf]; omega
              · have s4 : (z == last) = false := by simpa using hzl
                clear hr hzl
                go_wp2
                go_roundw
                case rel =>
                  refine ⟨i + 1, _, _, _, _, rfl, rfl, by go_num, ?_, HW5.out⟩
                  rw [HZK.out]
                  exact HST.out
                case measure => simp [intOf]; omega
        · have hm0 : m = [] := List.eq_nil_of_length_eq_zero (by omega)
          subst hm0
          obtain ⟨F, hl, _⟩ := hW.ls
          have hbel := hW.bel
          have HL := Lib.hid hl
          clear hS hW hl
          go_wp2_with fail
          refine (pop_none _ F _ _ _ _ _ HL.out).mono ?_
          rintro e w5 ⟨rfl, rfl⟩
          go_wp2_with fail
          refine (len_of _ F _ _ _ _ _ _ HL.out).mono ?_
          rintro e w5 ⟨rfl, rfl⟩
          go_wp2
          go_ret
          exact ⟨rfl, hbel⟩
end Go.Proofs.Ytjboapelelcieaa.Wk
