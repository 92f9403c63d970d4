/-
  What heap.down does, as a contract: a heap but for one thing that may have to go down is a heap again, of the same things, and what lies behind it has not turned.
-/
import Derived.Test.YtjboapelelcieaaWUp
namespace Go.Proofs.Ytjboapelelcieaa.Wk
open Go.RowKit
set_option linter.unusedVariables false
set_option linter.unusedSimpArgs false
theorem less_drewN (g cap i j : Nat) (ts : List Th) (cur : Array Value) (w : World) (h : Row w 49 g cap ts cur) (hi : i < ts.length) (hj : j < ts.length) (hm : ts.length ≤ 1000000000) (n : Nat) :
    Calls Try.prog 39 #[.slice (some ⟨g, 0, none⟩) ts.length cap, .int .i64 (i : Nat), .int .i64 (j : Nat)] (w.drewN n) (Drew (.bool (lt (tat ts i) (tat ts j))) w) :=
  (less_any g cap 0 i j ts cur (w.drewN n) (h.drewN n) (by omega) hi hj (by omega)).mono fun _ _ ⟨he, m, hw⟩ => ⟨he, n + m, by rw [hw, World.drewN_drewN]⟩
/-- What a round of down leaves. -/
def DownR (g cap n : Nat) (ts0 : List Th) (w0 : World) (t : Value) (w : World) : Prop :=
  ∃ (i : Nat) (ts : List Th), t = .int .i64 (i : Nat) ∧ i ≤ n ∧ ts.Perm ts0 ∧ (∀ k, n ≤ k → tat ts k = tat ts0 k) ∧ H.DownInv lt n (tat ts) i ∧ Lies w g cap ts ∧ Only (· = g) w0 w
/-- What going down leaves. -/
def Downed (g cap n : Nat) (ts : List Th) (w : World) (e : Ending) (w' : World) : Prop :=
  ∃ b, e = .returned (.bool b) ∧ ∃ ts', ts'.Perm ts ∧ (∀ k, n ≤ k → tat ts' k = tat ts k) ∧ H.Heap lt n (tat ts') ∧ Lies w' g cap ts' ∧ Only (· = g) w w'
/-- c is the least of what lies beneath i. -/
def Pick (f : Nat → Th) (n i c : Nat) : Prop := 0 < c ∧ c < n ∧ H.par c = i ∧ ∀ k, 0 < k → k < n → H.par k = i → lt (f k) (f c) = false
theorem lt_irr (x : Th) : lt x x = false := by
  rw [Bool.eq_false_iff]
  intro h
  have := lt_ord.asym _ _ h
  rw [h] at this
  cases this
theorem pick_one {f : Nat → Th} {n i : Nat} (h1 : 2 * i + 1 < n) (h2 : n ≤ 2 * i + 2) : Pick f n i (2 * i + 1) := by
  refine ⟨by omega, h1, (H.par_iff (by omega)).2 (by omega), fun k h0 hk hp => ?_⟩
  rcases (H.par_iff h0).1 hp with rfl | rfl
  · exact lt_irr _
  · omega
theorem pick_left {f : Nat → Th} {n i : Nat} (h1 : 2 * i + 2 < n) (h : lt (f (2 * i + 2)) (f (2 * i + 1)) = false) : Pick f n i (2 * i + 1) := by
  refine ⟨by omega, by omega, (H.par_iff (by omega)).2 (by omega), fun k h0 hk hp => ?_⟩
  rcases (H.par_iff h0).1 hp with rfl | rfl
  · exact lt_irr _
  · exact h
theorem pick_right {f : Nat → Th} {n i : Nat} (h1 : 2 * i + 2 < n) (h : lt (f (2 * i + 2)) (f (2 * i + 1)) = true) : Pick f n i (2 * i + 2) := by
  refine ⟨by omega, by omega, (H.par_iff (by omega)).2 (by omega), fun k h0 hk hp => ?_⟩
  rcases (H.par_iff h0).1 hp with rfl | rfl
  · exact lt_ord.asym _ _ h
  · exact lt_irr _
theorem down_done {f : Nat → Th} {n i c : Nat} (h : H.DownInv lt n f i) (hc : Pick f n i c) (hl : lt (f c) (f i) = false) : H.Heap lt n f :=
  h.done fun k h0 hk hp => lt_ord.neg _ _ _ (hc.2.2.2 k h0 hk hp) hl
theorem down_none {f : Nat → Th} {n i : Nat} (h : H.DownInv lt n f i) (hn : n ≤ 2 * i + 1) : H.Heap lt n f :=
  h.done fun k h0 hk hp => by
    have := (H.par_iff h0).1 hp
    omega
theorem down_step {ts : List Th} {n i c : Nat} (h : H.DownInv lt n (tat ts) i) (hn : n ≤ ts.length) (hc : Pick (tat ts) n i c) (hl : lt (tat ts c) (tat ts i) = true) : H.DownInv lt n (tat (tsw ts i c)) c := by
  have := H.par_lt hc.1
  rw [hc.2.2.1] at this
  rw [tat_sw ts i c (by have := hc.2.1; omega) (by have := hc.2.1; omega)]
  exact h.step lt_ord hc.1 hc.2.1 hc.2.2.1 hl hc.2.2.2
theorem down_keeps {ts ts0 : List Th} {n i c : Nat} (h : ∀ k, n ≤ k → tat ts k = tat ts0 k) (hn : n ≤ ts.length) (hi : i < n) (hc : c < n) : ∀ k, n ≤ k → tat (tsw ts i c) k = tat ts0 k := by
  intro k hk
  rw [tat_sw ts i c (by omega) (by omega), H.sw_else _ (by omega) (by omega)]
  exact h k hk
set_option maxHeartbeats 2000000 in
theorem down_any (Q g cap n : Nat) (ts0 : List Th) (pv kv : Value) (w : World) (hQ : At w Q g ts0.length cap pv kv) (hL : Lies w g cap ts0) (hn : n ≤ ts0.length) (hU : H.DownInv lt n (tat ts0) 0) (hmx : ts0.length ≤ 1000000000) :
    Calls Try.prog 21 #[ipile Q, .int .i64 0, .int .i64 (n : Nat)] w (Downed g cap n ts0 w) := by
  have hne := hQ.ne hL
  have HQ := Lib.hid hQ
  clear hQ
  go_enter Try.func21, Try.ntmps21
  go_wp2
  go_loopw [7] (fun t wr => DownR g cap n ts0 w t wr) (fun t _ => n - (intOf t).toNat)
  case atStart => exact ⟨0, ts0, rfl, Nat.zero_le _, .refl _, fun _ _ => rfl, hU, hL, Only.refl _ _⟩
  case round =>
    obtain ⟨i, ts, rfl, hin, hp, hk, hI, hLr, ho⟩ := hrel
    have hlen := hp.length_eq
    have HQr := Lib.hid (HQ.out.only ho (by simpa using hne))
    have HP := Lib.hid hp
    have HI := Lib.hid hI
    have HK := Lib.hid hk
    have c0 := HQr.out.cell
    rw [← hlen] at c0
    have hnt : n ≤ ts.length := by omega
    have hmx' : ts.length ≤ 1000000000 := by omega
    have HLR := Lib.hid hLr
    obtain ⟨cur, hR⟩ := hLr
    clear hp hI hlen hk
    obtain ⟨a, hae⟩ : ∃ a, a = 2 * i + 1 := ⟨_, rfl⟩
    obtain ⟨b, hbe⟩ : ∃ b, b = 2 * i + 2 := ⟨_, rfl⟩
    have hd1 : 2 * (i : Int) + 1 = (a : Int) := by omega
    have hd2 : (a : Int) + 1 = (b : Int) := by omega
    have mL := m_less c0
    have mLn : ∀ n, (method 175 47 (.pointer (some ⟨Q, 0, none⟩)) "Less").run Try.prog (wr.drewN n) = .ok (39, .slice (some ⟨g, 0, none⟩) ts.length cap) (wr.drewN n) := fun n => m_less (w := wr.drewN n) c0
    have mS : ∀ n, (method 175 47 (.pointer (some ⟨Q, 0, none⟩)) "Swap").run Try.prog (wr.drewN n) = .ok (40, .slice (some ⟨g, 0, none⟩) ts.length cap) (wr.drewN n) := fun n => m_swap (w := wr.drewN n) c0
    have HAE := Lib.hid hae
    have HBE := Lib.hid hbe
    have HRR := Lib.hid hR
    by_cases ha : n ≤ a
    · have t1 : decide ((n : Int) ≤ (a : Int)) = true := by simp; omega
      have t2 : decide (n ≤ a) = true := by simp; omega
      clear hae hbe hR
      go_wp2
      go_ret
      exact ⟨_, rfl, ts, HP.out, HK.out, down_none HI.out (by have := HAE.out; omega), HLR.out, ho⟩
    · have t1 : decide ((n : Int) ≤ (a : Int)) = false := by simp; omega
      have t2 : decide (n ≤ a) = false := by simp; omega
      have t3 : decide ((a : Int) < 0) = false := by simp
      have ha' : a < n := by omega
      by_cases hb : b < n
      · have s1 : decide ((b : Int) < (n : Int)) = true := by simp; omega
        have s2 : decide (b < n) = true := by simp; omega
        have HB := Lib.hid (less_drewN g cap b a ts cur wr hR (by omega) (by omega) hmx' 0)
        rw [World.drewN_zero] at HB
        cases hba : lt (tat ts b) (tat ts a)
        · rw [hba] at HB
          have HPI : Hid (Pick (tat ts) n i a) := show Pick _ _ _ _ by
            rw [HAE.out]
            exact pick_left (by omega) (by rw [← HAE.out, ← HBE.out]; exact hba)
          clear hae hbe hba
          have hcn : a < n := HPI.out.2.1
          have hic : i < a := by have := H.par_lt HPI.out.1; rw [HPI.out.2.2.1] at this; exact this
          have HL2 := Lib.hid (less_drewN g cap a i ts cur wr hR (by omega) (by omega) hmx')
          have HL0 := Lib.hid (less_drewN g cap a i ts cur wr hR (by omega) (by omega) hmx' 0)
          have HS := Lib.hid fun n => swap_any g cap i a ts cur (wr.drewN n) (hR.drewN n) (by omega) (by omega) (by omega)
          rw [World.drewN_zero] at HL0
          clear hR
          cases hlt : lt (tat ts a) (tat ts i)
          · rw [hlt] at HL2 HL0
            have HLT := Lib.hid hlt
            clear hlt
            go_wp2_with (first | (go_at_call 39; (with_reducible refine HB.out.mono ?_); rintro e w1 ⟨rfl, n1, rfl⟩) | (go_at_call 39; (with_reducible refine (HL2.out _).mono ?_); rintro e w1 ⟨rfl, n2, rfl⟩) | (go_at_call 39; (with_reducible refine HL0.out.mono ?_); rintro e w1 ⟨rfl, n2, rfl⟩))
            go_ret
            exact ⟨_, rfl, ts, HP.out, HK.out, down_done HI.out HPI.out HLT.out, HLR.out.drewN _, ho.drewN _⟩
          · rw [hlt] at HL2 HL0
            have HLT := Lib.hid hlt
            clear hlt
            go_wp2_with (first | (go_at_call 39; (with_reducible refine HB.out.mono ?_); rintro e w1 ⟨rfl, n1, rfl⟩) | (go_at_call 39; (with_reducible refine (HL2.out _).mono ?_); rintro e w1 ⟨rfl, n2, rfl⟩) | (go_at_call 39; (with_reducible refine HL0.out.mono ?_); rintro e w1 ⟨rfl, n2, rfl⟩) | (go_at_call 40; (with_reducible refine (HS.out _).mono ?_); rintro e w1 ⟨rfl, hL1, ho1⟩))
            go_roundw
            case rel =>
              exact ⟨a, tsw ts i a, rfl, by omega, (tsw_perm ts i a (by omega) (by omega)).trans HP.out, down_keeps HK.out hnt (by omega) hcn, down_step HI.out hnt HPI.out HLT.out, hL1, (ho.drewN _).trans ho1⟩
            case measure => simp [intOf]; omega
        · rw [hba] at HB
          have HPI : Hid (Pick (tat ts) n i b) := show Pick _ _ _ _ by
            rw [HBE.out]
            exact pick_right (by omega) (by rw [← HAE.out, ← HBE.out]; exact hba)
          clear hae hbe hba
          have hcn : b < n := HPI.out.2.1
          have hic : i < b := by have := H.par_lt HPI.out.1; rw [HPI.out.2.2.1] at this; exact this
          have HL2 := Lib.hid (less_drewN g cap b i ts cur wr hR (by omega) (by omega) hmx')
          have HL0 := Lib.hid (less_drewN g cap b i ts cur wr hR (by omega) (by omega) hmx' 0)
          have HS := Lib.hid fun n => swap_any g cap i b ts cur (wr.drewN n) (hR.drewN n) (by omega) (by omega) (by omega)
          rw [World.drewN_zero] at HL0
          clear hR
          cases hlt : lt (tat ts b) (tat ts i)
          · rw [hlt] at HL2 HL0
            have HLT := Lib.hid hlt
            clear hlt
            go_wp2_with (first | (go_at_call 39; (with_reducible refine HB.out.mono ?_); rintro e w1 ⟨rfl, n1, rfl⟩) | (go_at_call 39; (with_reducible refine (HL2.out _).mono ?_); rintro e w1 ⟨rfl, n2, rfl⟩) | (go_at_call 39; (with_reducible refine HL0.out.mono ?_); rintro e w1 ⟨rfl, n2, rfl⟩))
            go_ret
            exact ⟨_, rfl, ts, HP.out, HK.out, down_done HI.out HPI.out HLT.out, HLR.out.drewN _, ho.drewN _⟩
          · rw [hlt] at HL2 HL0
            have HLT := Lib.hid hlt
            clear hlt
            go_wp2_with (first | (go_at_call 39; (with_reducible refine HB.out.mono ?_); rintro e w1 ⟨rfl, n1, rfl⟩) | (go_at_call 39; (with_reducible refine (HL2.out _).mono ?_); rintro e w1 ⟨rfl, n2, rfl⟩) | (go_at_call 39; (with_reducible refine HL0.out.mono ?_); rintro e w1 ⟨rfl, n2, rfl⟩) | (go_at_call 40; (with_reducible refine (HS.out _).mono ?_); rintro e w1 ⟨rfl, hL1, ho1⟩))
            go_roundw
            case rel =>
              exact ⟨b, tsw ts i b, rfl, by omega, (tsw_perm ts i b (by omega) (by omega)).trans HP.out, down_keeps HK.out hnt (by omega) hcn, down_step HI.out hnt HPI.out HLT.out, hL1, (ho.drewN _).trans ho1⟩
            case measure => simp [intOf]; omega
      · have s1 : decide ((b : Int) < (n : Int)) = false := by simp; omega
        have s2 : decide (b < n) = false := by simp; omega
        have HPI : Hid (Pick (tat ts) n i a) := show Pick _ _ _ _ by
          rw [HAE.out]
          exact pick_one (by omega) (by omega)
        clear hae hbe
        have hcn : a < n := HPI.out.2.1
        have hic : i < a := by have := H.par_lt HPI.out.1; rw [HPI.out.2.2.1] at this; exact this
        have HL2 := Lib.hid (less_drewN g cap a i ts cur wr hR (by omega) (by omega) hmx')
        have HL0 := Lib.hid (less_drewN g cap a i ts cur wr hR (by omega) (by omega) hmx' 0)
        have HS := Lib.hid fun n => swap_any g cap i a ts cur (wr.drewN n) (hR.drewN n) (by omega) (by omega) (by omega)
        rw [World.drewN_zero] at HL0
        clear hR
        cases hlt : lt (tat ts a) (tat ts i)
        · rw [hlt] at HL2 HL0
          have HLT := Lib.hid hlt
          clear hlt
          go_wp2_with (first | (go_at_call 39; (with_reducible refine (HL2.out _).mono ?_); rintro e w1 ⟨rfl, n2, rfl⟩) | (go_at_call 39; (with_reducible refine HL0.out.mono ?_); rintro e w1 ⟨rfl, n2, rfl⟩))
          go_ret
          exact ⟨_, rfl, ts, HP.out, HK.out, down_done HI.out HPI.out HLT.out, HLR.out.drewN _, ho.drewN _⟩
        · rw [hlt] at HL2 HL0
          have HLT := Lib.hid hlt
          clear hlt
          go_wp2_with (first | (go_at_call 39; (with_reducible refine (HL2.out _).mono ?_); rintro e w1 ⟨rfl, n2, rfl⟩) | (go_at_call 39; (with_reducible refine HL0.out.mono ?_); rintro e w1 ⟨rfl, n2, rfl⟩) | (go_at_call 40; (with_reducible refine (HS.out _).mono ?_); rintro e w1 ⟨rfl, hL1, ho1⟩))
          go_roundw
          case rel =>
            exact ⟨a, tsw ts i a, rfl, by omega, (tsw_perm ts i a (by omega) (by omega)).trans HP.out, down_keeps HK.out hnt (by omega) hcn, down_step HI.out hnt HPI.out HLT.out, hL1, (ho.drewN _).trans ho1⟩
          case measure => simp [intOf]; omega
end Go.Proofs.Ytjboapelelcieaa.Wk
