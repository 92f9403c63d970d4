/-
  What regPieces of post tells, as a contract.
-/
import Derived.Test.YtchokfgffnomoaaDoorPTLine
namespace Go.Proofs.YtchokfgffnomoaaDoor.Lx
open Go.RowKit
open P (xN pcs)
set_option maxRecDepth 100000
set_option linter.unusedVariables false
set_option linter.unusedSimpArgs false
/-- A row that one owns is put behind another one, in a region that draws. -/
theorem step_append_rows {P : Program} (w : World) {ops : Array Oper} {o : Oper} {a : Act} {K : Act → World → Prop} {Q : Exit → Act → World → Prop} {E : Prop} (hgd : o.guard = none) (s x : Operand) (t : TypeId)
    (ho : o.op = .call { callee := .builtin .append, args := #[s, x], argTypes := #[t, t] })
    (base : Nat) (e : TypeId) (i : TypeInfo) (z : Value) (size bytes : Nat) (ht : P.underlying t = some (.slice e)) (hi : P.info? e = some i) (hz : i.zero = some z)
    (hsize : i.size = size) (hby : i.bytes = bytes) (hzs : z.cells.size = size) (hsz : 0 < size)
    (v : Value) (n : Nat) (xs : List Value) (hs : a.eval s = v) (hown : w.ownsRow base e size v n xs)
    (u : Value) (base' m : Nat) (news : List Value) (hx : a.eval x = u) (hownx : w.ownsRow base' e size u m news) (h1 : ∀ y ∈ news, y.oneCell' = true)
    (h63 : n + m ≤ maxLen) (hbytes : (n + m) * bytes ≤ 140737488355328) (hbase : base ≤ w.heap.size)
    (h : ∀ v' w', w'.ownsRow base e size v' (n + m) (xs ++ news) → w.grownBy w' v.ownBlock → K (a.put o.dst v') w') :
    if Region.wanted o (yielded ops a.tmps) = true then Oper.wp P o a w K Q else E := by
  have hw : Region.wanted o (yielded ops a.tmps) = true := by simp [Region.wanted, hgd]
  rw [if_pos hw]
  rcases hownx.2 with ⟨hu, hm⟩ | ⟨g, cap, cur, hu, hg, hh, r⟩
  · subst hu hm
    have hn : news = [] := by
      have := hownx.1
      rw [Nat.zero_mul] at this
      exact List.length_eq_zero_iff.1 this
    subst hn
    have hrun := run_append_owned_none (P := P) (w := w) base t o.type e i size ht hi v n xs hown
    unfold Oper.wp execOp
    simp only [ho, resolve, invoke, builtin, Sem.run_bind, Sem.run_pure, Result.andThen_ok, List.map_toArray, List.map_cons, List.map_nil, hs, hx, hrun]
    exact h v w (by simpa using hown) ⟨rfl, rfl, rfl, Nat.le_refl _, fun _ _ _ => rfl⟩
  · have hcells := hownx.cells (g := g) (by rw [hu]; rfl)
    subst hu
    obtain ⟨v', w', hr, h2, h3, _, _⟩ := run_append_own_at (P := P) w base t o.type e i z size bytes ht hi hz hsize hby hzs hsz v n xs hown ⟨g, 0, none⟩ m cap news hownx.1 hcells h1 h63 hbytes hbase
    unfold Oper.wp execOp
    simp only [ho, resolve, invoke, builtin, Sem.run_bind, Sem.run_pure, Result.andThen_ok, List.map_toArray, List.map_cons, List.map_nil, hs, hx, hr]
    exact h v' w' h2 h3
theorem tcs_one (l : List (List UInt8)) : ∀ y ∈ tcs l, y.oneCell' = true := by
  intro y hy
  unfold tcs at hy
  obtain ⟨s, _, rfl⟩ := List.mem_map.1 hy
  rfl
/-- The pieces of the first threads. -/
def rgp (regs : List (List (List UInt8))) (rv : List (List Int)) : Nat → List (List UInt8)
  | 0 => []
  | t + 1 => rgp regs rv t ++ pcs (xN (t : Nat) ++ [58]) (regs.getD t []) (rv.getD t [])
theorem rgp_len {regs : List (List (List UInt8))} {rv : List (List Int)} (hg : ∀ i, (regs.getD i []).length ≤ 1000) : ∀ t, (rgp regs rv t).length ≤ t * 1000
  | 0 => Nat.zero_le _
  | t + 1 => by
    have ih := rgp_len hg (rv := rv) t
    have h1 := pcs_len (xN (t : Nat) ++ [58]) (regs.getD t []) (rv.getD t [])
    have h2 := hg t
    unfold rgp
    rw [List.length_append, h1]
    omega
/-- What a round keeps. -/
def RgR (regs : List (List (List UInt8))) (rv : List (List Int)) (w : World) (v i : Value) (wr : World) : Prop := ∃ j : Nat, i = .int .i64 (j : Nat) ∧ j ≤ min regs.length rv.length ∧ RowT w.heap.size wr v (rgp regs rv j) ∧ Below w.heap.size w wr
set_option maxHeartbeats 12800000 in
theorem regPieces_any {B : Nat} (regs : List (List (List UInt8))) (rv : List (List Int)) (ga ra : Option Addr) (gc rc : Nat) (w : World) (hn : NssA w ga regs) (hv : VssA w ra rv) (hgl : regs.length ≤ 1000) (hrl : rv.length ≤ 1000) (hgs : ∀ i, (regs.getD i []).length ≤ 1000) (hrs : ∀ i, (rv.getD i []).length ≤ 1000) (hss : ∀ i k, ((regs.getD i []).getD k []).length ≤ 100) (h64 : ∀ i k, W64 ((rv.getD i []).getD k 0)) (hB : B ≤ w.heap.size) (ht : Tp B w) :
    Calls Tryd.prog 47 #[.slice ga regs.length gc, .slice ra rv.length rc] w (RowTo (rgp regs rv (min regs.length rv.length)) w) := by
  obtain ⟨i0, hi, hz0, hz1, hz2⟩ := info_parts Tryd.infoStr
  have HI := Lib.hid hi
  have HZ0 := Lib.hid hz0
  have HZ1 := Lib.hid hz1
  have HZ2 := Lib.hid hz2
  have HN := Lib.hid hn
  have HV := Lib.hid hv
  have HT := Lib.hid ht
  have HS := Lib.hid hss
  have H64 := Lib.hid h64
  have HGS := Lib.hid hgs
  have HRS := Lib.hid hrs
  clear hi hz0 hz1 hz2 hn hv ht hss h64 hgs hrs
  by_cases hle : rv.length < regs.length
  all_goals
    go_enter Tryd.func47, Tryd.ntmps47
    go_wp2_with fail
    go_loopw [5, 12] (fun v i wr => RgR regs rv w v i wr) (fun _ i _ => min regs.length rv.length - (intOf i).toNat)
    case atStart => exact ⟨0, rfl, Nat.zero_le _, World.ownsRow_nil _ _ _ _, Below.refl _ _⟩
    case round =>
      obtain ⟨j, rfl, hj, hrow, hbr⟩ := hrel
      have HROW := Lib.hid hrow
      have HBR := Lib.hid hbr
      clear hrow hbr
      by_cases hlt : j < min regs.length rv.length
      · have hj1 : j < regs.length := by omega
        have hj2 : j < rv.length := by omega
        obtain ⟨g1, o1, na, nc, rfl, hcn, hnn⟩ := nss_at HN.out hj1
        obtain ⟨g2, o2, va, vc, rfl, hcv, hvv⟩ := vss_at HV.out hj2
        have d1 : (0 : Int) ≤ (j : Int) := by omega
        have d2 : decide ((j : Int) < (regs.length : Int)) = true := decide_eq_true (by omega)
        have d3 : decide (j < regs.length) = true := decide_eq_true hj1
        have d4 : decide ((j : Int) < (rv.length : Int)) = true := decide_eq_true (by omega)
        have d5 : decide (j < rv.length) = true := decide_eq_true hj2
        have d6 : (j : Int) < (regs.length : Int) := by omega
        have d7 : (j : Int) < (rv.length : Int) := by omega
        have HAT := Lib.hid (show rgp regs rv (j + 1) = rgp regs rv j ++ pcs (xN (j : Nat) ++ [58]) (regs.getD j []) (rv.getD j []) from rfl)
        have hjW : W64 (j : Nat) := ⟨by omega, by omega⟩
        have hDs : (bs (xN (j : Nat))).size ≤ 20 := by rw [bs_size]; exact xNum_len _ hjW
        have hwr := HBR.out.size
        have HIT := Lib.hid (fun w' (hb : Below wr.heap.size wr w') => (itoaP_any (j : Nat) hjW ((HT.out.low hB HBR.out).low (by omega) hb) (by have := hb.size; omega)).mono fun e w'' (hh : e = .returned (.string (bs (xN (j : Nat)))) ∧ Below w'.heap.size w' w'') => (show e = .returned (.string (bs (xN (j : Nat)))) ∧ Below wr.heap.size wr w'' from ⟨hh.1, hb.trans (hh.2.mono hb.size)⟩))
        have hFl : (xN (j : Nat) ++ [58]).length ≤ 100 := by
          rw [List.length_append]
          have := xNum_len _ hjW
          simp
          omega
        have h1 := HGS.out j
        have h2 := HRS.out j
        have h3 := HS.out j
        have h4 := H64.out j
        have hlm := rgp_len (rv := rv) HGS.out j
        have hpl := pcs_len (xN (j : Nat) ++ [58]) (regs.getD j []) (rv.getD j [])
        generalize regs.getD j [] = NS at *
        generalize rv.getD j [] = VS at *
        have HPC := Lib.hid (fun w' (hb : Below wr.heap.size wr w') => (pieces_any (B := B) (xN (j : Nat) ++ [58]) NS VS na va nc vc w' (hnn.keep (Keeps.below (HBR.out.trans (hb.mono hwr)) (Nat.le_refl _))) (hvv.keep (Keeps.below (HBR.out.trans (hb.mono hwr)) (Nat.le_refl _))) h1 h2 hFl h3 h4 (by have := hb.size; omega) ((HT.out.low hB HBR.out).low (by omega) hb)).mono fun e w'' (hh : RowTo (pcs (xN (j : Nat) ++ [58]) NS VS) w' e w'') => (show ∃ u B', e = .returned u ∧ RowT B' w'' u (pcs (xN (j : Nat) ++ [58]) NS VS) ∧ Below wr.heap.size wr w'' from by
          obtain ⟨u, he, hr, hb2⟩ := hh
          exact ⟨u, _, he, hr, hb.trans (hb2.mono hb.size)⟩))
        rw [show bs (xN (j : Nat) ++ [58]) = bs (xN (j : Nat)) ++ ⟨#[58]⟩ from (bs_app _ _).symm] at HPC
        have hpm : (pcs (xN (j : Nat) ++ [58]) NS VS).length ≤ 1000 := by omega
        have hbD : Below wr.heap.size wr wr.drew := (Below.refl _ _).drew
        have hb0 : Below wr.heap.size wr wr := Below.refl _ _
        have hKW := Lib.hid (show ∀ w', Below w.heap.size w w' → w'.cell? ⟨g1, o1 + j, none⟩ = some (.slice na NS.length nc) ∧ w'.cell? ⟨g2, o2 + j, none⟩ = some (.slice va VS.length vc) from fun w' hb => ⟨(hb.cell (p := ⟨g1, o1 + j, none⟩) (World.block_lt_of_cell? w _ hcn)).trans hcn, (hb.cell (p := ⟨g2, o2 + j, none⟩) (World.block_lt_of_cell? w _ hcv)).trans hcv⟩)
        have hKS := Lib.hid (fun w' (hb : Below wr.heap.size wr w') => hKW.out w' (HBR.out.trans (hb.mono hwr)))
        have HK0 := Lib.hid (hKS.out wr hb0)
        have HKD := Lib.hid (hKS.out wr.drew hbD)
        have HVB := Lib.hid (row_base HROW.out)
        generalize bs (xN (j : Nat)) = D at *
        generalize pcs (xN (j : Nat) ++ [58]) NS VS = PP at *
        generalize rgp regs rv j = PL at *
        have s1 : ¬ D.size + 1 > 9223372036854775807 := by omega
        have hPLl : PL.length ≤ 1000000 := by omega
        clear hcn hcv hlt hj1 hj2 h1 h2 h3 h4 hnn hvv hFl hjW hpl hlm
        go_wp2_with fail
        go_region_held3 (fun w' => w'.cell? ⟨g1, o1 + j, none⟩ = some (.slice na NS.length nc) ∧ w'.cell? ⟨g2, o2 + j, none⟩ = some (.slice va VS.length vc))
          (first
            | with_reducible exact HK0.out
            | with_reducible exact HKD.out
            | with_reducible assumption
            | go_keep)
          (first
            | (go_at_call 63; (with_reducible refine (HIT.out _ (by assumption)).mono ?_); rintro e w7 ⟨rfl, hb7⟩; have hS7 := hKS.out w7 hb7)
            | (go_at_call 48; (with_reducible refine (HPC.out _ (by assumption)).mono ?_); rintro e w9 ⟨u9, B9, rfl, hr9, hb9⟩; have hS9 := hKS.out w9 hb9; have hs9 := hb9.size; have HR9 := Lib.hid hr9; have HL9 := Lib.hid (own_below HROW.out hb9); clear hr9)
            | (refine step_append_rows _ (by rfl) _ _ _ (by rfl) w.heap.size 9 i0 _ 1 16 Tryd.underlying41 HI.out HZ0.out HZ1.out HZ2.out rfl (by decide) u5 PL.length (tcs PL) (by rfl) HL9.out u9 B9 PP.length (tcs PP) (by rfl) HR9.out (tcs_one _) (by unfold maxLen; omega) (by omega) (by omega) ?_; intro v8 w8 hown8 hgrow8; have hb8 := (HBR.out.trans (hb9.mono hwr)).grown hgrow8 (by omega) HVB.out; have hS8 := hKW.out w8 hb8))
        all_goals
          go_wp2_with fail
          have HROW8 := Lib.hid (show RowT w.heap.size w8 v8 (rgp regs rv (j + 1)) by
            rw [HAT.out]
            unfold RowT
            rw [tcs_app, List.length_append]
            exact hown8)
          have HB8 := Lib.hid hb8
          clear hown8 hgrow8 hb8 hS8
          go_roundw
          case rel => exact ⟨j + 1, by go_num, by omega, HROW8.out, HB8.out⟩
          case measure => simp [intOf]; omega
      · have HL := Lib.hid (show j = min regs.length rv.length by omega)
        first
          | (have hx : rv.length < regs.length := hle
             obtain rfl : j = rv.length := by omega
             have d4 : decide ((rv.length : Int) < (rv.length : Int)) = false := by simp
             have d5 : decide (rv.length < rv.length) = false := by simp)
          | (obtain rfl : j = regs.length := by omega
             have d4 : decide ((regs.length : Int) < (regs.length : Int)) = false := by simp
             have d5 : decide (regs.length < regs.length) = false := by simp)
        rw [HL.out] at HROW
        clear hlt hj
        go_wp2_with fail
        go_ret
        exact ⟨_, rfl, HROW.out, HBR.out⟩
end Go.Proofs.YtchokfgffnomoaaDoor.Lx
