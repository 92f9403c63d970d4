/-
  What pieces of post tell, as a contract.
-/
import Derived.Test.YtchokfgffnomoaaDoorPTNum
import Derived.Test.YtchokfgffnomoaaDoorPTHold
import Derived.Deep.AppendLies
namespace Go.Proofs.YtchokfgffnomoaaDoor.Lx
open Go.RowKit
open P (xN pcs rpcs lpcs)
set_option maxRecDepth 100000
set_option linter.unusedVariables false
set_option linter.unusedSimpArgs false
/-- Texts as cells. -/
def tcs (l : List (List UInt8)) : List Value := l.map fun x => .string (bs x)
theorem tcs_app (a b : List (List UInt8)) : tcs (a ++ b) = tcs a ++ tcs b := List.map_append ..
theorem tcs_len (a : List (List UInt8)) : (tcs a).length = a.length := List.length_map ..
theorem pcs_len (F : List UInt8) (ns : List (List UInt8)) (vs : List Int) : (pcs F ns vs).length = min ns.length vs.length := by
  unfold P.pcs
  rw [List.length_map, List.length_zip]
theorem pcs_at {F : List UInt8} {ns : List (List UInt8)} {vs : List Int} {j : Nat} (h1 : j < ns.length) (h2 : j < vs.length) : (pcs F ns vs).take (j + 1) = (pcs F ns vs).take j ++ [F ++ ns.getD j [] ++ [61] ++ xN (vs.getD j 0)] := by
  have hl : j < (pcs F ns vs).length := by rw [pcs_len]; omega
  have hz : (ns.zip vs)[j]? = some (ns.getD j [], vs.getD j 0) := by
    rw [List.getElem?_eq_getElem (by rw [List.length_zip]; omega), List.getElem_zip, List.getD_eq_getElem?_getD, List.getElem?_eq_getElem h1, List.getD_eq_getElem?_getD, List.getElem?_eq_getElem h2]
    rfl
  have he : (pcs F ns vs)[j]? = some (F ++ ns.getD j [] ++ [61] ++ xN (vs.getD j 0)) := by
    unfold P.pcs
    rw [List.getElem?_map, hz]
    rfl
  rw [List.take_add_one, he]
  rfl
/-- A row of texts that one owns. -/
def RowT (B : Nat) (w : World) (v : Value) (l : List (List UInt8)) : Prop := w.ownsRow B 9 1 v l.length (tcs l)
/-- A row of texts is told, nothing old turns. -/
def RowTo (l : List (List UInt8)) (w : World) (e : Ending) (w' : World) : Prop := ∃ v, e = .returned v ∧ RowT w.heap.size w' v l ∧ Below w.heap.size w w'
theorem RowT.snoc {B : Nat} {w w7 w8 : World} {o : Obj} {v : Value} {l : List (List UInt8)} {g c : Nat} {X : ByteArray} {p : List UInt8} (hb : Below B w w7) (hB : B ≤ w.heap.size) (hX : X = bs p)
    (hown : w8.ownsRow B 9 1 (.slice (some ⟨g, 0, none⟩) (l.length + 1) c) (l.length + 1) (tcs l ++ [.string X])) (hgr : (w7.alloc o).grownBy w8 v.ownBlock) (hv : ∀ k, v.ownBlock = some k → B ≤ k) : RowT B w8 (.slice (some ⟨g, 0, none⟩) (l.length + 1) c) (l ++ [p]) ∧ Below B w w8 := by
  have hs := hb.size
  refine ⟨?_, (hb.alloc (by omega) o).grown hgr (by simp; omega) hv⟩
  unfold RowT
  rw [tcs_app, List.length_append, List.length_singleton]
  subst hX
  exact hown
theorem row_base {B : Nat} {w : World} {v : Value} {l : List (List UInt8)} (h : RowT B w v l) : ∀ k, v.ownBlock = some k → B ≤ k := by
  intro k hk
  rcases h.2 with h2 | ⟨g, cap, cur, rfl, hg, _⟩
  · rw [h2.1] at hk
    cases hk
  · cases hk
    exact hg
/-- What a round of pieces keeps. -/
def PcR (F : List UInt8) (ns : List (List UInt8)) (vs : List Int) (w : World) (v i : Value) (wr : World) : Prop := ∃ j : Nat, i = .int .i64 (j : Nat) ∧ j ≤ min ns.length vs.length ∧ RowT w.heap.size wr v ((pcs F ns vs).take j) ∧ Below w.heap.size w wr
set_option maxHeartbeats 12800000 in
theorem pieces_any {B : Nat} (F : List UInt8) (ns : List (List UInt8)) (vs : List Int) (na va : Option Addr) (nc vc : Nat) (w : World) (hn : Nms (fun _ => True) w (.slice na ns.length nc) ns) (hv : Ivs (fun _ => True) w (.slice va vs.length vc) vs) (hnl : ns.length ≤ 1000) (hvl : vs.length ≤ 1000) (hF : F.length ≤ 100) (hs : ∀ i, (ns.getD i []).length ≤ 100) (h64 : ∀ k, W64 (vs.getD k 0)) (hB : B ≤ w.heap.size) (ht : Tp B w) :
    Calls Tryd.prog 48 #[.string (bs F), .slice na ns.length nc, .slice va vs.length vc] w (RowTo (pcs F ns vs) w) := by
  obtain ⟨i0, hi, hz0, hz1, hz2⟩ := info_parts Tryd.infoStr
  have HI := Lib.hid hi
  have HZ0 := Lib.hid hz0
  have HZ1 := Lib.hid hz1
  have HZ2 := Lib.hid hz2
  have HN := Lib.hid hn
  have HV := Lib.hid hv
  have HT := Lib.hid ht
  have HS := Lib.hid hs
  have H64 := Lib.hid h64
  have hFs : (bs F).size ≤ 100 := by rw [bs_size]; exact hF
  have HFF := Lib.hid (show ∀ x : ByteArray, x = bs F → x = bs F from fun x h => h)
  clear hi hz0 hz1 hz2 hn hv ht hs h64
  generalize hFB : bs F = FB at *
  have HFB := Lib.hid hFB
  clear hFB
  by_cases hle : vs.length < ns.length
  all_goals
    go_enter Tryd.func48, Tryd.ntmps48
    go_wp2_with fail
    go_loopw [7, 14] (fun v i wr => PcR F ns vs w v i wr) (fun _ i _ => min ns.length vs.length - (intOf i).toNat)
    case atStart => exact ⟨0, rfl, Nat.zero_le _, World.ownsRow_nil _ _ _ _, Below.refl _ _⟩
    case round =>
      obtain ⟨j, rfl, hj, hrow, hbr⟩ := hrel
      have HROW := Lib.hid hrow
      have HBR := Lib.hid hbr
      clear hrow hbr
      by_cases hlt : j < min ns.length vs.length
      · have hj1 : j < ns.length := by omega
        have hj2 : j < vs.length := by omega
        obtain ⟨gn, on, rfl, hcn⟩ := nms_at HN.out hj1
        obtain ⟨gv, ov, rfl, hcv⟩ := ivs_at HV.out hj2
        have d1 : (0 : Int) ≤ (j : Int) := by omega
        have d2 : decide ((j : Int) < (ns.length : Int)) = true := decide_eq_true (by omega)
        have d3 : decide (j < ns.length) = true := decide_eq_true hj1
        have d4 : decide ((j : Int) < (vs.length : Int)) = true := decide_eq_true (by omega)
        have d5 : decide (j < vs.length) = true := decide_eq_true hj2
        have d6 : (j : Int) < (ns.length : Int) := by omega
        have d7 : (j : Int) < (vs.length : Int) := by omega
        have hlen : ((pcs F ns vs).take j).length = j := by
          rw [List.length_take, pcs_len]
          omega
        have HAT := Lib.hid (pcs_at (F := F) hj1 hj2)
        have hXs : (bs (ns.getD j [])).size ≤ 100 := by rw [bs_size]; exact HS.out j
        have hVs : (bs (xN (vs.getD j 0))).size ≤ 20 := by rw [bs_size]; exact xNum_len _ (H64.out j)
        have HP := Lib.hid (show FB ++ bs (ns.getD j []) ++ ⟨#[61]⟩ ++ bs (xN (vs.getD j 0)) = bs (F ++ ns.getD j [] ++ [61] ++ xN (vs.getD j 0)) by
          rw [← HFB.out, bs_app, show (⟨#[61]⟩ : ByteArray) = bs [61] from rfl, bs_app, bs_app])
        have HIT := Lib.hid (fun w' (hb : Below wr.heap.size wr w') => (itoaP_any (vs.getD j 0) (H64.out j) ((HT.out.low hB HBR.out).low (by have := HBR.out.size; omega) hb) (by have := HBR.out.size; have := hb.size; omega)).mono fun e w'' (hh : e = .returned (.string (bs (xN (vs.getD j 0)))) ∧ Below w'.heap.size w' w'') => (show e = .returned (.string (bs (xN (vs.getD j 0)))) ∧ Below wr.heap.size wr w'' from ⟨hh.1, hb.trans (hh.2.mono hb.size)⟩))
        generalize F ++ ns.getD j [] ++ [61] ++ xN (vs.getD j 0) = PC at *
        generalize bs (ns.getD j []) = X at *
        generalize bs (xN (vs.getD j 0)) = D at *
        generalize vs.getD j 0 = V at *
        generalize hPL : (pcs F ns vs).take j = PL at *
        have HRO := Lib.hid (show wr.ownsRow w.heap.size 9 1 u7 j (tcs PL) by have := HROW.out; unfold RowT at this; rw [hlen] at this; exact this)
        have HLN := Lib.hid hlen
        have HPL := Lib.hid hPL
        have s1 : ¬ FB.size + X.size > 9223372036854775807 := by omega
        have s2 : ¬ FB.size + X.size + 1 > 9223372036854775807 := by omega
        have s3 : ¬ FB.size + X.size + 1 + D.size > 9223372036854775807 := by omega
        have hbD : Below wr.heap.size wr wr.drew := (Below.refl _ _).drew
        have hb0 : Below wr.heap.size wr wr := Below.refl _ _
        have hwr := HBR.out.size
        have hKW := Lib.hid (show ∀ w', Below w.heap.size w w' → w'.cell? ⟨gn, on + j, none⟩ = some (.string X) ∧ w'.cell? ⟨gv, ov + j, none⟩ = some (.int .i64 V) from fun w' hb => ⟨(hb.cell (p := ⟨gn, on + j, none⟩) (World.block_lt_of_cell? w _ hcn)).trans hcn, (hb.cell (p := ⟨gv, ov + j, none⟩) (World.block_lt_of_cell? w _ hcv)).trans hcv⟩)
        have hKS := Lib.hid (fun w' (hb : Below wr.heap.size wr w') => hKW.out w' (HBR.out.trans (hb.mono hwr)))
        have HK0 := Lib.hid (hKS.out wr hb0)
        have HKD := Lib.hid (hKS.out wr.drew hbD)
        have HVB := Lib.hid (row_base HROW.out)
        clear hlen hPL hcn hcv hlt hj1 hj2
        go_wp2_with fail
        go_region_held3 (fun w' => w'.cell? ⟨gn, on + j, none⟩ = some (.string X) ∧ w'.cell? ⟨gv, ov + j, none⟩ = some (.int .i64 V))
          (first
            | with_reducible exact HK0.out
            | with_reducible exact HKD.out
            | with_reducible assumption
            | go_keep)
          (first
            | (go_at_call 63; (with_reducible refine (HIT.out _ (by assumption)).mono ?_); rintro e w7 ⟨rfl, hb7⟩; have hS7 := hKS.out w7 hb7; have hs7 := hb7.size; have HR7 := Lib.hid (own_below HRO.out hb7))
            | (refine step_append_lies _ (by rfl) _ _ _ (by rfl) w.heap.size 9 i0 _ 1 16 Tryd.underlying41 HI.out HZ0.out HZ1.out HZ2.out rfl (by decide) u7 j (tcs PL) (by rfl) (HR7.out.alloc _) ⟨w7.heap.size, 0, none⟩ 1 1 [.string (FB ++ X ++ ⟨#[61]⟩ ++ D)] (by rfl) (by rfl) (World.news_of_block (cs := #[.string (FB ++ X ++ ⟨#[61]⟩ ++ D)]) (t := 9) (fr := (0, 0)) (heap_alloc_new w7 _)) (by simp [Value.oneCell']) (by omega) (by unfold maxLen; omega) (by omega) (by simp; omega) (w7.heap.size + 1) (by simp) ?_; intro gg cap w8 hown8 hgrow8 hat8 hlt8; have hb8 := ((HBR.out.trans (hb7.mono hwr)).alloc (by omega) _).grown hgrow8 (by simp; omega) HVB.out; have hS8 := hKW.out w8 hb8))
        all_goals
          go_wp2_with fail
          have HROW8 := Lib.hid (show RowT w.heap.size w8 (.slice (some ⟨gg, 0, none⟩) (j + 1) cap) ((pcs F ns vs).take (j + 1)) by
            rw [HAT.out]
            unfold RowT
            rw [tcs_app, List.length_append, List.length_singleton, HLN.out]
            rw [HP.out] at hown8
            exact hown8)
          have HB8 := Lib.hid hb8
          clear hown8 hgrow8 hat8 hlt8 hb8 hS8
          go_roundw
          case rel => exact ⟨j + 1, by go_num, by omega, HROW8.out, HB8.out⟩
          case measure => simp [intOf]; omega
      · have HL : Hid ((pcs F ns vs).take j = pcs F ns vs) := Lib.hid (List.take_of_length_le (by rw [pcs_len]; omega))
        first
          | (have hx : vs.length < ns.length := hle
             obtain rfl : j = vs.length := by omega
             have d4 : decide ((vs.length : Int) < (vs.length : Int)) = false := by simp
             have d5 : decide (vs.length < vs.length) = false := by simp)
          | (obtain rfl : j = ns.length := by omega
             have d4 : decide ((ns.length : Int) < (ns.length : Int)) = false := by simp
             have d5 : decide (ns.length < ns.length) = false := by simp)
        rw [HL.out] at HROW
        clear hlt hj
        go_wp2_with fail
        go_ret
        exact ⟨_, rfl, HROW.out, HBR.out⟩
end Go.Proofs.YtchokfgffnomoaaDoor.Lx
