/-
  How pile's methods are found through the interface, and what heap.up does, as a contract: a heap but for one thing that may have to go up is a heap again, of the same things.
-/
import Derived.Test.YtjboapelelcieaaWSwap
namespace Go.Proofs.Ytjboapelelcieaa.Wk
open Go.RowKit
set_option linter.unusedVariables false
set_option linter.unusedSimpArgs false
/-- A pile by its pointer, as an interface value. -/
abbrev ipile (Q : Nat) : Value := .iface 47 (.pointer (some ⟨Q, 0, none⟩))
theorem load_pile (Q : Nat) (w : World) (v : Value) (h : w.cell? ⟨Q, 0, none⟩ = some v) : (loadVar 43 ⟨Q, 0, none⟩).run Try.prog w = .ok v w := by
  simp [loadVar, Try.underlying43, h, go_sem]
theorem m_len0 (Q : Nat) (w : World) : (method 175 47 (.pointer (some ⟨Q, 0, none⟩)) "Len").run Try.prog w = (loadVar 43 ⟨Q, 0, none⟩ >>= fun v => pure (38, v)).run Try.prog w := by kernel_rfl
theorem m_less0 (Q : Nat) (w : World) : (method 175 47 (.pointer (some ⟨Q, 0, none⟩)) "Less").run Try.prog w = (loadVar 43 ⟨Q, 0, none⟩ >>= fun v => pure (39, v)).run Try.prog w := by kernel_rfl
theorem m_swap0 (Q : Nat) (w : World) : (method 175 47 (.pointer (some ⟨Q, 0, none⟩)) "Swap").run Try.prog w = (loadVar 43 ⟨Q, 0, none⟩ >>= fun v => pure (40, v)).run Try.prog w := by kernel_rfl
theorem m_push (Q : Nat) (w : World) : (method 175 47 (.pointer (some ⟨Q, 0, none⟩)) "Push").run Try.prog w = .ok (42, .pointer (some ⟨Q, 0, none⟩)) w := by kernel_rfl
theorem m_pop (Q : Nat) (w : World) : (method 175 47 (.pointer (some ⟨Q, 0, none⟩)) "Pop").run Try.prog w = .ok (41, .pointer (some ⟨Q, 0, none⟩)) w := by kernel_rfl
theorem m_len {Q : Nat} {w : World} {v : Value} (h : w.cell? ⟨Q, 0, none⟩ = some v) : (method 175 47 (.pointer (some ⟨Q, 0, none⟩)) "Len").run Try.prog w = .ok (38, v) w := by
  rw [m_len0]
  simp [load_pile Q w v h]
theorem m_less {Q : Nat} {w : World} {v : Value} (h : w.cell? ⟨Q, 0, none⟩ = some v) : (method 175 47 (.pointer (some ⟨Q, 0, none⟩)) "Less").run Try.prog w = .ok (39, v) w := by
  rw [m_less0]
  simp [load_pile Q w v h]
theorem m_swap {Q : Nat} {w : World} {v : Value} (h : w.cell? ⟨Q, 0, none⟩ = some v) : (method 175 47 (.pointer (some ⟨Q, 0, none⟩)) "Swap").run Try.prog w = .ok (40, v) w := by
  rw [m_swap0]
  simp [load_pile Q w v h]

/-- The things ts lie in block g. -/
def Lies (w : World) (g cap : Nat) (ts : List Th) : Prop := ∃ cur, Row w 49 g cap ts cur
theorem Lies.drewN {w : World} {g cap : Nat} {ts : List Th} (h : Lies w g cap ts) (n : Nat) : Lies (w.drewN n) g cap ts := h.elim fun _ h => ⟨_, h.drewN n⟩
theorem Lies.max {w : World} {g cap : Nat} {ts : List Th} (h : Lies w g cap ts) : ts.length ≤ maxLen := h.elim fun _ h => Nat.le_trans h.fit h.max
/-- A heap's place in memory: the queue at Q has its pile in block g. -/
def At (w : World) (Q g n cap : Nat) (pv kv : Value) : Prop := Blk w Q 45 #[.slice (some ⟨g, 0, none⟩) n cap, pv, kv]
theorem At.cell {w : World} {Q g n cap : Nat} {pv kv : Value} (h : At w Q g n cap pv kv) : w.cell? ⟨Q, 0, none⟩ = some (.slice (some ⟨g, 0, none⟩) n cap) := Blk.cell h 0
theorem At.only {w w' : World} {Q g n cap : Nat} {pv kv : Value} (h : At w Q g n cap pv kv) {S : Nat → Prop} (ho : Only S w w') (hQ : ¬ S Q) : At w' Q g n cap pv kv := Blk.only h ho hQ
theorem At.ne {w : World} {Q g n cap c : Nat} {ts : List Th} {pv kv : Value} (h : At w Q g n cap pv kv) (hL : Lies w g c ts) : Q ≠ g := by
  obtain ⟨cur, hR⟩ := hL
  exact Blk.ne h hR.blk (by decide)
/-- What going up or down leaves: a heap of the same things. -/
def Sifted (g cap n : Nat) (ts : List Th) (w : World) (v : Value) (e : Ending) (w' : World) : Prop :=
  e = .returned v ∧ ∃ ts', ts'.Perm ts ∧ H.Heap lt n (tat ts') ∧ Lies w' g cap ts' ∧ Only (· = g) w w'
/-- What a round of up leaves. -/
def UpR (g cap : Nat) (ts0 : List Th) (w0 : World) (t : Value) (w : World) : Prop :=
  ∃ (j : Nat) (ts : List Th), t = .int .i64 (j : Nat) ∧ ts.Perm ts0 ∧ H.UpInv lt ts.length (tat ts) j ∧ Lies w g cap ts ∧ Only (· = g) w0 w
theorem lt_ord : H.Ord lt := H.klt_ord fun t : Th => (t.key, t.turn)
set_option maxHeartbeats 800000 in
theorem up_any (Q g cap j0 : Nat) (ts0 : List Th) (pv kv : Value) (w : World) (hQ : At w Q g ts0.length cap pv kv) (hL : Lies w g cap ts0) (hU : H.UpInv lt ts0.length (tat ts0) j0) (hmx : ts0.length ≤ 1000000000) :
    Calls Try.prog 20 #[ipile Q, .int .i64 (j0 : Nat)] w (Sifted g cap ts0.length ts0 w (.tuple #[])) := by
  have hne := hQ.ne hL
  have HQ := Lib.hid hQ
  clear hQ
  go_enter Try.func20, Try.ntmps20
  go_wp2
  go_loopw [1] (fun t wr => UpR g cap ts0 w t wr) (fun t _ => (intOf t).toNat)
  case atStart => exact ⟨j0, ts0, rfl, .refl _, hU, hL, Only.refl _ _⟩
  case round =>
    obtain ⟨j, ts, rfl, hp, hI, hLr, ho⟩ := hrel
    have hlen := hp.length_eq
    have hjn := hI.ins
    have HQr := Lib.hid (HQ.out.only ho (by simpa using hne))
    have HP := Lib.hid hp
    have HI := Lib.hid hI
    have c0 := HQr.out.cell
    rw [← hlen] at c0
    have HLEN := Lib.hid hlen
    have hmx' : ts.length ≤ 4611686018427387904 := by omega
    clear hp hI hlen
    by_cases h0 : j = 0
    · subst h0
      go_wp2
      go_end0
      refine ⟨rfl, ts, HP.out, ?_, hLr, ho⟩
      have := HI.out.done (.inl rfl)
      rwa [HLEN.out] at this
    · obtain ⟨p, hpe⟩ : ∃ p, p = H.par j := ⟨_, rfl⟩
      have hd1 : ((j : Int) - 1) / 2 = (p : Int) := by
        rw [hpe]
        unfold H.par
        omega
      have hpj : p < j := by rw [hpe]; exact H.par_lt (by omega)
      have hb1 : ((p : Int) == (j : Int)) = false := by simp; omega
      have hb2 : (p == j) = false := by simp; omega
      have hb3 : ¬ p = j := by omega
      have mL := m_less c0
      have mS : ∀ n, (method 175 47 (.pointer (some ⟨Q, 0, none⟩)) "Swap").run Try.prog (wr.drewN n) = .ok (40, .slice (some ⟨g, 0, none⟩) ts.length cap) (wr.drewN n) := fun n => m_swap (w := wr.drewN n) c0
      have HPE := Lib.hid hpe
      clear hpe
      have HLR := Lib.hid hLr
      obtain ⟨cur, hR⟩ := hLr
      have HL := Lib.hid (less_any g cap 0 j p ts cur wr hR (by omega) hjn (by omega) hmx')
      have HS := Lib.hid fun n => swap_any g cap p j ts cur (wr.drewN n) (hR.drewN n) (by omega) hjn hmx'
      clear hR
      cases hlt : lt (tat ts j) (tat ts p)
      · rw [hlt] at HL
        have HLT := Lib.hid hlt
        clear hlt
        go_wp2_with (go_at_call 39; (with_reducible refine HL.out.mono ?_); rintro e w1 ⟨rfl, n1, rfl⟩)
        go_end0
        refine ⟨rfl, ts, HP.out, ?_, HLR.out.drewN _, ho.drewN _⟩
        have := HI.out.done (.inr (by rw [← HPE.out]; exact HLT.out))
        rwa [HLEN.out] at this
      · rw [hlt] at HL
        have HLT := Lib.hid hlt
        clear hlt
        go_wp2_with (first | (go_at_call 39; (with_reducible refine HL.out.mono ?_); rintro e w1 ⟨rfl, n1, rfl⟩) | (go_at_call 40; (with_reducible refine (HS.out _).mono ?_); rintro e w1 ⟨rfl, hL1, ho1⟩))
        go_roundw
        case rel =>
          refine ⟨p, tsw ts p j, rfl, (tsw_perm ts p j (by omega) hjn).trans HP.out, ?_, hL1, (ho.drewN _).trans ho1⟩
          rw [tsw_len, tat_sw ts p j (by omega) hjn, HPE.out]
          exact HI.out.step lt_ord (by omega) (by rw [← HPE.out]; exact HLT.out)
        case measure => simp [intOf]; omega
end Go.Proofs.Ytjboapelelcieaa.Wk
