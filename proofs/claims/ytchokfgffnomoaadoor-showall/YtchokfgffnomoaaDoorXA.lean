/-
  What kid and Mode of the document's answer tell, as contracts, of whatever lists and modes.
-/
import Derived.Test.YtchokfgffnomoaaDoorTA
import Derived.Test.YtchokfgffnomoaaDoorXMath
import Derived.Test.YtchokfgffnomoaaDoorXKidT
import Derived.Test.YtchokfgffnomoaaDoorDD
import Derived.Deep.RegionHeld3
import Derived.Deep.QuietTactic
import Derived.BigQuiet
namespace Go.Proofs.YtchokfgffnomoaaDoor.Lx
open Go.RowKit
open L (Tok)
open P (EX CO ST)
set_option maxRecDepth 100000
set_option linter.unusedVariables false
set_option linter.unusedSimpArgs false
set_option maxHeartbeats 1600000 in
theorem kid_in (F : ByteArray) (i : Nat) (z : Int) (hz : z = (i : Int)) (es : List EX) (e : EX) (g off cap : Nat) (Q : Nat → Prop) (w : World) (hl : LXs Q w g off es) (he : es[i]? = some e) (hm : es.length ≤ maxLen) (hi : i < es.length)
    (hEx : ∀ v w', LX Q w' v e → Calls Tryd.prog 15 #[v] w' (TextTo F w')) :
    Calls Tryd.prog 38 #[.slice (some ⟨g, off, none⟩) es.length cap, .int .i64 z] w (TextTo F w) := by
  subst hz
  unfold maxLen at hm
  obtain ⟨x, a0, a1, a2, a3, hx, h0, h1, h2, h3, hlx⟩ := LXs.at es hl i hi
  obtain rfl : x = e := by rw [he] at hx; exact (Option.some.inj hx).symm
  have HE := Lib.hid (hEx _ w hlx)
  clear hl he hx hlx hEx
  have m1 : (0 : Int) ≤ (i : Int) := by omega
  have m2 : (i : Int) < (es.length : Int) := by omega
  have d1 : decide ((es.length : Int) ≤ (i : Int)) = false := by simp; omega
  have d2 : decide (es.length ≤ i) = false := by simp; omega
  go_enter Tryd.func38, Tryd.ntmps38
  go_wp2_with fail
  with_reducible refine HE.out.mono ?_
  rintro e w1 ⟨rfl, hb1⟩
  go_wp2_with fail
  go_ret
  exact ⟨rfl, hb1⟩
set_option maxHeartbeats 1600000 in
theorem kid_out (i n cap : Nat) (a : Option Addr) (z : Int) (hz : z = (i : Int)) (w : World) (hm : n ≤ maxLen) (hi : n ≤ i) :
    Calls Tryd.prog 38 #[.slice a n cap, .int .i64 z] w (TextTo (bs []) w) := by
  subst hz
  unfold maxLen at hm
  have d1 : decide ((n : Int) ≤ (i : Int)) = true := by simp; omega
  have d2 : decide (n ≤ i) = true := by simp; omega
  show Calls Tryd.prog 38 #[.slice a n cap, .int .i64 (i : Nat)] w (TextTo ⟨#[]⟩ w)
  go_enter Tryd.func38, Tryd.ntmps38
  go_wp2_with fail
  go_ret
  exact ⟨rfl, Below.refl _ _⟩
theorem kid_text (es : List EX) (i : Nat) (z : Int) (hz : z = (i : Int)) (Q : Nat → Prop) (v : Value) (w : World) (hv : IsXs Q w v es) (hE : ∀ e ∈ es, ∀ v w', LX Q w' v e → Calls Tryd.prog 15 #[v] w' (TextTo (bs (P.xE e)) w')) :
    Calls Tryd.prog 38 #[v, .int .i64 z] w (TextTo (bs (kidT es i)) w) := by
  obtain ⟨a, c, rfl, hm, hc⟩ := hv
  by_cases hi : i < es.length
  · rcases hc with rfl | ⟨g, off, rfl, hg, hs⟩
    · simp at hi
    · have he : es[i]? = some es[i] := List.getElem?_eq_getElem hi
      have := kid_in (bs (P.xE es[i])) i z hz es es[i] g off c Q w hs he hm hi (hE _ (List.getElem_mem hi))
      rwa [show kidT es i = P.xE es[i] by simp [kidT, List.getD_eq_getElem?_getD, he]]
  · have := kid_out i es.length c a z hz w hm (by omega)
    rwa [show kidT es i = [] by simp [kidT, List.getD_eq_getElem?_getD, List.getElem?_eq_none (show es.length ≤ i by omega)]]
set_option maxHeartbeats 1600000 in
theorem modeX_text (m : Int) (w : World) : Calls Tryd.prog 19 #[.int .i64 m] w (fun e w' => e = .returned (.string (bs (P.xM m))) ∧ w = w') := by
  by_cases h : 0 ≤ m ∧ m < 5
  · obtain ⟨n, rfl⟩ : ∃ n : Nat, m = n := ⟨m.toNat, by omega⟩
    rw [P.xM_lt (by omega)]
    exact modeW_text n (by omega) w
  · rw [show P.xM m = [] from if_neg h]
    have e0 : (m == 0) = false := by simp; omega
    have e1 : (m == 1) = false := by simp; omega
    have e2 : (m == 2) = false := by simp; omega
    have e3 : (m == 3) = false := by simp; omega
    have e4 : (m == 4) = false := by simp; omega
    have f0 : ¬ m = 0 := by omega
    have f1 : ¬ m = 1 := by omega
    have f2 : ¬ m = 2 := by omega
    have f3 : ¬ m = 3 := by omega
    have f4 : ¬ m = 4 := by omega
    clear h
    show Calls Tryd.prog 19 #[.int .i64 m] w (fun e w' => e = .returned (.string ⟨#[]⟩) ∧ w = w')
    go_enter Tryd.func19, Tryd.ntmps19
    go_wp2
    go_ret
    exact ⟨rfl, rfl⟩
end Go.Proofs.YtchokfgffnomoaaDoor.Lx
/-
  What lines of the document's answer tells, as a contract: statements' text.
-/
namespace Go.Proofs.YtchokfgffnomoaaDoor.Lx
open Go.RowKit
open L (Tok)
open P (EX CO ST)
set_option maxRecDepth 100000
set_option linter.unusedVariables false
set_option linter.unusedSimpArgs false
/-- A statement's expressions are told. -/
def KidsOk (Q : Nat → Prop) (ar : List EX) : Prop := ∀ (i : Nat) (z : Int) (v : Value) (w : World), z = (i : Int) → IsXs Q w v ar → Calls Tryd.prog 38 #[v, .int .i64 z] w (TextTo (bs (kidT ar i)) w)
/-- Statements' lines are told. -/
def LinesOk (Q : Nat → Prop) (l : List ST) (d : Nat) : Prop := ∀ (z : Int) (v : Value) (w : World), z = (d : Int) → IsSs Q w v l → Calls Tryd.prog 36 #[v, .int .i64 z] w (TextTo (bs (P.xSs l d)) w)
/-- What a statement's text leans on is told. -/
def StOk (Q : Nat → Prop) (d : Nat) : ST → Prop
  | .mk kd md rg lc ar th el => KidsOk Q ar ∧ LinesOk Q th (d + 1) ∧ LinesOk Q el (d + 1)
theorem xSs_app (d : Nat) : ∀ a b : List ST, P.xSs (a ++ b) d = P.xSs a d ++ P.xSs b d
  | [], b => by simp [P.xSs]
  | s :: a, b => by simp [P.xSs, xSs_app d a b]
theorem xSs_take {l : List ST} {j : Nat} {s : ST} (d : Nat) (h : l[j]? = some s) : P.xSs (l.take (j + 1)) d = P.xSs (l.take j) d ++ P.xS s d := by
  rw [List.take_add_one, h, xSs_app]
  simp [P.xSs]
theorem xSs_le {l : List ST} {j : Nat} (d : Nat) : (P.xSs (l.take j) d).length ≤ (P.xSs l d).length := by
  conv => rhs; rw [← List.take_append_drop j l, xSs_app]
  simp
/-- The texts of the kinds, as the document's answer adds them up. -/
theorem t_set (o h rg a : List UInt8) : ((((bs o ++ bs h) ++ bs rg) ++ ⟨#[32, 61, 32]⟩) ++ bs a) ++ ⟨#[59, 10]⟩ = bs (o ++ (h ++ ((rg ++ [32]) ++ ([61] ++ ([32] ++ (a ++ ([59] ++ [10]))))))) := by
  show ((((bs o ++ bs h) ++ bs rg) ++ bs [32, 61, 32]) ++ bs a) ++ bs [59, 10] = _
  simp only [bs_app]
  simp
theorem t_load (o h rg m lc : List UInt8) : ((((((bs o ++ bs h) ++ bs rg) ++ ⟨#[32, 61, 32, 108, 111, 97, 100, 32]⟩) ++ bs m) ++ ⟨#[32]⟩) ++ bs lc) ++ ⟨#[59, 10]⟩ = bs (o ++ (h ++ ((rg ++ [32]) ++ ([61] ++ ([32] ++ (([108, 111, 97, 100] ++ [32]) ++ ((m ++ [32]) ++ (lc ++ ([59] ++ [10]))))))))) := by
  show ((((((bs o ++ bs h) ++ bs rg) ++ bs [32, 61, 32, 108, 111, 97, 100, 32]) ++ bs m) ++ bs [32]) ++ bs lc) ++ bs [59, 10] = _
  simp only [bs_app]
  simp
theorem t_store (o h m lc a : List UInt8) : (((((((bs o ++ bs h) ++ ⟨#[115, 116, 111, 114, 101, 32]⟩) ++ bs m) ++ ⟨#[32]⟩) ++ bs lc) ++ ⟨#[32]⟩) ++ bs a) ++ ⟨#[59, 10]⟩ = bs (o ++ (h ++ (([115, 116, 111, 114, 101] ++ [32]) ++ ((m ++ [32]) ++ ((lc ++ [32]) ++ (a ++ ([59] ++ [10]))))))) := by
  show (((((((bs o ++ bs h) ++ bs [115, 116, 111, 114, 101, 32]) ++ bs m) ++ bs [32]) ++ bs lc) ++ bs [32]) ++ bs a) ++ bs [59, 10] = _
  simp only [bs_app]
  simp
theorem t_add (o h rg m lc a : List UInt8) : ((((((((bs o ++ bs h) ++ bs rg) ++ ⟨#[32, 61, 32, 97, 100, 100, 32]⟩) ++ bs m) ++ ⟨#[32]⟩) ++ bs lc) ++ ⟨#[32]⟩) ++ bs a) ++ ⟨#[59, 10]⟩ = bs (o ++ (h ++ ((rg ++ [32]) ++ ([61] ++ ([32] ++ (([97, 100, 100] ++ [32]) ++ ((m ++ [32]) ++ ((lc ++ [32]) ++ (a ++ ([59] ++ [10])))))))))) := by
  show ((((((((bs o ++ bs h) ++ bs rg) ++ bs [32, 61, 32, 97, 100, 100, 32]) ++ bs m) ++ bs [32]) ++ bs lc) ++ bs [32]) ++ bs a) ++ bs [59, 10] = _
  simp only [bs_app]
  simp
theorem t_fence (o h m : List UInt8) : (((bs o ++ bs h) ++ ⟨#[102, 101, 110, 99, 101, 32]⟩) ++ bs m) ++ ⟨#[59, 10]⟩ = bs (o ++ (h ++ (([102, 101, 110, 99, 101] ++ [32]) ++ (m ++ ([59] ++ [10]))))) := by
  show (((bs o ++ bs h) ++ bs [102, 101, 110, 99, 101, 32]) ++ bs m) ++ bs [59, 10] = _
  simp only [bs_app]
  simp
theorem t_if (o h a u : List UInt8) : ((((((bs o ++ bs h) ++ ⟨#[105, 102, 32]⟩) ++ bs a) ++ ⟨#[32, 123, 10]⟩) ++ bs u) ++ bs h) ++ ⟨#[125, 10]⟩ = bs (o ++ (h ++ (([105, 102] ++ [32]) ++ ((a ++ ([32] ++ ([123] ++ [10]))) ++ (u ++ (h ++ ([125] ++ [10]))))))) := by
  show ((((((bs o ++ bs h) ++ bs [105, 102, 32]) ++ bs a) ++ bs [32, 123, 10]) ++ bs u) ++ bs h) ++ bs [125, 10] = _
  simp only [bs_app]
  simp
theorem t_ife (o h a u e : List UInt8) : (((((((((bs o ++ bs h) ++ ⟨#[105, 102, 32]⟩) ++ bs a) ++ ⟨#[32, 123, 10]⟩) ++ bs u) ++ bs h) ++ ⟨#[125, 32, 101, 108, 115, 101, 32, 123, 10]⟩) ++ bs e) ++ bs h) ++ ⟨#[125, 10]⟩ = bs (o ++ (h ++ (([105, 102] ++ [32]) ++ ((a ++ ([32] ++ ([123] ++ [10]))) ++ (u ++ ((h ++ ([125] ++ ([32] ++ (([101, 108, 115, 101] ++ [32]) ++ ([123] ++ [10]))))) ++ (e ++ (h ++ ([125] ++ [10]))))))))) := by
  show (((((((((bs o ++ bs h) ++ bs [105, 102, 32]) ++ bs a) ++ bs [32, 123, 10]) ++ bs u) ++ bs h) ++ bs [125, 32, 101, 108, 115, 101, 32, 123, 10]) ++ bs e) ++ bs h) ++ bs [125, 10] = _
  simp only [bs_app]
  simp
theorem t_cas (o h rg m lc a b : List UInt8) : ((((((((((bs o ++ bs h) ++ bs rg) ++ ⟨#[32, 61, 32, 99, 97, 115, 32]⟩) ++ bs m) ++ ⟨#[32]⟩) ++ bs lc) ++ ⟨#[32]⟩) ++ bs a) ++ ⟨#[44, 32]⟩) ++ bs b) ++ ⟨#[59, 10]⟩ = bs (o ++ (h ++ ((rg ++ [32]) ++ ([61] ++ ([32] ++ (([99, 97, 115] ++ [32]) ++ ((m ++ [32]) ++ ((lc ++ [32]) ++ (a ++ ([44] ++ ([32] ++ (b ++ ([59] ++ [10]))))))))))))) := by
  show ((((((((((bs o ++ bs h) ++ bs rg) ++ bs [32, 61, 32, 99, 97, 115, 32]) ++ bs m) ++ bs [32]) ++ bs lc) ++ bs [32]) ++ bs a) ++ bs [44, 32]) ++ bs b) ++ bs [59, 10] = _
  simp only [bs_app]
  simp
theorem Below.isXs {Q : Nat → Prop} {w w' : World} (hb : Below w.heap.size w w') {v : Value} {es : List EX} (h : IsXs Q w v es) : IsXs Q w' v es := by
  obtain ⟨a, c, rfl, hm, h | ⟨g, off, rfl, hg, hs⟩⟩ := h
  · exact ⟨a, c, rfl, hm, .inl h⟩
  · exact ⟨_, c, rfl, hm, .inr ⟨g, off, rfl, hg, LXs.keep (Keeps.below hb (Nat.le_refl _)) _ hg hs⟩⟩
theorem Below.isSs {Q : Nat → Prop} {w w' : World} (hb : Below w.heap.size w w') {v : Value} {es : List ST} (h : IsSs Q w v es) : IsSs Q w' v es := IsSs.step (fun b hq hl => ⟨hq, hb.block b hl⟩) h
/-- A statement's cells, and what hangs on them. -/
theorem st_at {Q : Nat → Prop} {w : World} {l : List ST} {g off j : Nat} (h : LSs Q w g off l) (hj : j < l.length) : ∃ (kd md : Int) (rg lc : List UInt8) (ar : List EX) (th el : List ST) (aa aq ae : Option Addr) (ca ct ce : Nat), l[j]? = some (.mk kd md rg lc ar th el) ∧
    w.cell? ⟨g, off + j * 7, none⟩ = some (.int .i64 kd) ∧ w.cell? ⟨g, off + j * 7 + 1, none⟩ = some (.int .i64 md) ∧ w.cell? ⟨g, off + j * 7 + 2, none⟩ = some (.string (bs rg)) ∧ w.cell? ⟨g, off + j * 7 + 3, none⟩ = some (.string (bs lc)) ∧ w.cell? ⟨g, off + j * 7 + 4, none⟩ = some (.slice aa ar.length ca) ∧ w.cell? ⟨g, off + j * 7 + 5, none⟩ = some (.slice aq th.length ct) ∧ w.cell? ⟨g, off + j * 7 + 6, none⟩ = some (.slice ae el.length ce) ∧
    IsXs Q w (.slice aa ar.length ca) ar ∧ IsSs Q w (.slice aq th.length ct) th ∧ IsSs Q w (.slice ae el.length ce) el := by
  obtain ⟨e, c0, c1, c2, c3, c4, c5, c6, he, h0, h1, h2, h3, h4, h5, h6, hx⟩ := LSs.at l h j hj
  obtain ⟨kd, md, rg, lc, ar, th, el⟩ := e
  unfold LS at hx
  obtain ⟨aa, ca, aq, ct, ae, ce, hv, m1, m2, m3, k1, k2, k3⟩ := hx
  injection hv with hv
  simp only [Array.mk.injEq, List.cons.injEq, and_true] at hv
  obtain ⟨rfl, rfl, rfl, rfl, rfl, rfl, rfl⟩ := hv
  exact ⟨kd, md, rg, lc, ar, th, el, aa, aq, ae, ca, ct, ce, he, h0, h1, h2, h3, h4, h5, h6, ⟨aa, ca, rfl, m1, k1⟩, ⟨aq, ct, rfl, m2, k2⟩, ⟨ae, ce, rfl, m3, k3⟩⟩
end Go.Proofs.YtchokfgffnomoaaDoor.Lx
/-
  What lines of the document's answer tells, as a contract: the walk.
-/
namespace Go.Proofs.YtchokfgffnomoaaDoor.Lx
open Go.RowKit
open P (EX CO ST)
set_option maxRecDepth 100000
set_option linter.unusedVariables false
set_option linter.unusedSimpArgs false
set_option maxHeartbeats 6400000 in
theorem lines_step (Q : Nat → Prop) (d : Nat) (hd : d ≤ 1000000000000) (l : List ST) (hN : (P.xSs l d).length ≤ 1000000000000) (hk : ∀ s ∈ l, StOk Q d s) (v : Value) (w : World) (hv : IsSs Q w v l) :
    Calls Tryd.prog 36 #[v, .int .i64 (d : Nat)] w (TextTo (bs (P.xSs l d)) w) := by
  obtain ⟨a, c, rfl, hm, hc⟩ := hv
  unfold maxLen at hm
  have HC := Lib.hid hc
  have HK := Lib.hid hk
  have HN := Lib.hid hN
  clear hc hk hN
  go_enter Tryd.func36, Tryd.ntmps36
  go_wp2_with fail
  go_loopw [5, 6] (fun ov iv wr => ∃ j : Nat, iv = .int .i64 j ∧ j ≤ l.length ∧ ov = .string (bs (P.xSs (l.take j) d)) ∧ Below w.heap.size w wr) (fun _ iv _ => l.length - (intOf iv).toNat)
  case atStart => exact ⟨0, rfl, Nat.zero_le _, by simp [P.xSs]; rfl, Below.refl _ _⟩
  case round =>
    obtain ⟨j, rfl, hj, rfl, hb⟩ := hrel
    have HB := Lib.hid hb
    have hsw := hb.size
    clear hb
    by_cases hlt : j < l.length
    · rcases HC.out with h0 | ⟨g, off, rfl, hg, hs⟩
      · rw [h0] at hlt
        simp at hlt
      obtain ⟨kd, md, rg, lc, ar, th, el, aa, aq, ae, ca, ct, ce, he, c0, c1, c2, c3, c4, c5, c6, hx, ht, hel⟩ := st_at hs hlt
      have hgl : g < w.heap.size := World.block_lt_of_cell? w _ c0
      have r0 : wr.cell? ⟨g, off + j * 7, none⟩ = some (.int .i64 kd) := (HB.out.cell (p := ⟨g, off + j * 7, none⟩) hgl).trans c0
      have r1 : wr.cell? ⟨g, off + j * 7 + 1, none⟩ = some (.int .i64 md) := (HB.out.cell (p := ⟨g, off + j * 7 + 1, none⟩) hgl).trans c1
      have r2 : wr.cell? ⟨g, off + j * 7 + 2, none⟩ = some (.string (bs rg)) := (HB.out.cell (p := ⟨g, off + j * 7 + 2, none⟩) hgl).trans c2
      have r3 : wr.cell? ⟨g, off + j * 7 + 3, none⟩ = some (.string (bs lc)) := (HB.out.cell (p := ⟨g, off + j * 7 + 3, none⟩) hgl).trans c3
      have r4 : wr.cell? ⟨g, off + j * 7 + 4, none⟩ = some (.slice aa ar.length ca) := (HB.out.cell (p := ⟨g, off + j * 7 + 4, none⟩) hgl).trans c4
      have r5 : wr.cell? ⟨g, off + j * 7 + 5, none⟩ = some (.slice aq th.length ct) := (HB.out.cell (p := ⟨g, off + j * 7 + 5, none⟩) hgl).trans c5
      have r6 : wr.cell? ⟨g, off + j * 7 + 6, none⟩ = some (.slice ae el.length ce) := (HB.out.cell (p := ⟨g, off + j * 7 + 6, none⟩) hgl).trans c6
      obtain ⟨hk0, hk1, hk2⟩ := HK.out _ (List.mem_of_getElem? he)
      have HK0 := Lib.hid (fun v w h => hk0 0 0 v w rfl h)
      have HKB := Lib.hid (fun v w h => hk0 1 1 v w rfl h)
      have HK1 := Lib.hid (fun z v w hz h => hk1 z v w hz h)
      have HK2 := Lib.hid (fun z v w hz h => hk2 z v w hz h)
      have HTK := Lib.hid (xSs_take d he)
      have HTL := Lib.hid (show (P.xSs (l.take j) d).length + (P.xS (.mk kd md rg lc ar th el) d).length ≤ 1000000000000 by
        have h1 := xSs_le (l := l) (j := j + 1) d
        rw [xSs_take d he, List.length_append] at h1
        have := HN.out
        omega)
      have hba : Below wr.heap.size wr (wr.alloc (.cells #[.int .i64 kd, .int .i64 md, .string (bs rg), .string (bs lc), .slice aa ar.length ca, .slice aq th.length ct, .slice ae el.length ce] 68)) := (Below.refl _ _).alloc (Nat.le_refl _) _
      have HBA := Lib.hid (HB.out.trans (hba.mono hsw))
      have HXA := Lib.hid (Below.isXs HBA.out hx)
      have HTA := Lib.hid (Below.isSs HBA.out ht)
      have HEA := Lib.hid (Below.isSs HBA.out hel)
      have HS := Lib.hid (Blk.new wr 68 #[.int .i64 kd, .int .i64 md, .string (bs rg), .string (bs lc), .slice aa ar.length ca, .slice aq th.length ct, .slice ae el.length ce])
      have hsa := hba.size
      clear c0 c1 c2 c3 c4 c5 c6 hx ht hel he hk0 hk1 hk2 hs hba
      have m1 : (0 : Int) ≤ (j : Int) := by omega
      have m2 : (j : Int) < (l.length : Int) := by omega
      go_upto_region 6 with (fail)
      generalize wr.alloc (.cells #[.int .i64 kd, .int .i64 md, .string (bs rg), .string (bs lc), .slice aa ar.length ca, .slice aq th.length ct, .slice ae el.length ce] 68) = wa at *
      clear r0 r1 r2 r3 r4 r5 r6 m1 m2
      obtain ⟨s0, s1, s2, s3, s4, s5, s6, _, _, _, _, _, _, _⟩ := seven_free HS.out
      go_wp2_with fail
      with_reducible refine (HK0.out _ _ HXA.out).mono ?_
      rintro e w1 ⟨rfl, hb1⟩
      have HS1 := Lib.hid (HS.out.live' hb1)
      have HB1 := Lib.hid (HBA.out.trans (hb1.mono (by omega)))
      have HX1 := Lib.hid (Below.isXs hb1 HXA.out)
      have HT1 := Lib.hid (Below.isSs hb1 HTA.out)
      have HE1 := Lib.hid (Below.isSs hb1 HEA.out)
      have hs1 := hb1.size
      clear hb1 s0 s1 s2 s3 s4 s5 s6 HS HXA HTA HEA HBA HB
      go_wp2_with fail
      with_reducible refine (in_text d (by omega) w1).mono ?_
      rintro e w2 ⟨rfl, rfl⟩
      obtain ⟨s0, s1, s2, s3, s4, s5, s6, _, _, _, _, _, _, _⟩ := seven_free HS1.out
      have hsO : (bs (P.xSs (l.take j) d)).size = (P.xSs (l.take j) d).length := bs_size _
      have hsH : (bs (P.ind d)).size = (P.ind d).length := bs_size _
      have hsA : (bs (kidT ar 0)).size = (kidT ar 0).length := bs_size _
      have hsR : (bs rg).size = rg.length := bs_size _
      have hsL : (bs lc).size = lc.length := bs_size _
      by_cases k1 : kd = 1
      · subst k1
        have htl := HTL.out
        rw [show P.xS (.mk 1 md rg lc ar th el) d = P.ind d ++ ((rg ++ [32]) ++ ([61] ++ ([32] ++ (kidT ar 0 ++ ([59] ++ [10]))))) by simp [P.xS, kidT]] at htl
        have HTX := Lib.hid (show ((((bs (P.xSs (l.take j) d) ++ bs (P.ind d)) ++ bs rg) ++ ⟨#[32, 61, 32]⟩) ++ bs (kidT ar 0)) ++ ⟨#[59, 10]⟩ = bs (P.xSs (l.take (j + 1)) d) by
          rw [t_set, HTK.out]
          simp [P.xS, kidT])
        simp only [List.length_append, List.length_cons, List.length_nil] at htl
        generalize bs (P.xSs (l.take j) d) = O at *
        generalize bs (P.ind d) = H at *
        generalize bs (kidT ar 0) = A at *
        generalize bs rg = RG at *
        generalize bs lc = LC' at *
        have z1 : ¬ 9223372036854775807 < O.size + H.size := by omega
        have z2 : ¬ 9223372036854775807 < O.size + H.size + RG.size := by omega
        have z3 : ¬ 9223372036854775807 < O.size + H.size + RG.size + 3 := by omega
        have z4 : ¬ 9223372036854775807 < O.size + H.size + RG.size + 3 + A.size := by omega
        have z5 : ¬ 9223372036854775807 < O.size + H.size + RG.size + 3 + A.size + 2 := by omega
        clear htl hsO hsH hsA hsR hsL
        go_wp2_with fail
        go_roundw
        case rel => exact ⟨j + 1, by go_num, by omega, by rw [← HTX.out], HB1.out⟩
        case measure => simp [intOf]; omega
      -- KINDS
      by_cases k2 : kd = 2
      · subst k2
        have htl := HTL.out
        rw [show P.xS (.mk 2 md rg lc ar th el) d = P.ind d ++ ((rg ++ [32]) ++ ([61] ++ ([32] ++ (([108, 111, 97, 100] ++ [32]) ++ ((P.xM md ++ [32]) ++ (lc ++ ([59] ++ [10]))))))) by simp [P.xS, kidT]] at htl
        have HTX := Lib.hid (show (((((((bs (P.xSs (l.take j) d) ++ bs (P.ind d)) ++ bs rg) ++ ⟨#[32, 61, 32, 108, 111, 97, 100, 32]⟩) ++ bs (P.xM md)) ++ ⟨#[32]⟩) ++ bs lc) ++ ⟨#[59, 10]⟩) = bs (P.xSs (l.take (j + 1)) d) by
          rw [t_load, HTK.out]
          simp [P.xS, kidT])
        have HMD := Lib.hid (fun w => modeX_text md w)
        have HMQ := Lib.hid (fun w => (modeX_text md w).mono fun e w' h => (show e = .returned (.string (bs (P.xM md))) ∧ w' = w from ⟨h.1, h.2.symm⟩))
        have hsM : (bs (P.xM md)).size = (P.xM md).length := bs_size _
        simp only [List.length_append, List.length_cons, List.length_nil] at htl
        generalize bs (P.xSs (l.take j) d) = O at *
        generalize bs (P.ind d) = H at *
        generalize bs (kidT ar 0) = A at *
        generalize bs (P.xM md) = MD at *
        generalize bs rg = RG at *
        generalize bs lc = LZ at *
        have z1 : ¬ 9223372036854775807 < O.size + H.size := by omega
        have z2 : ¬ 9223372036854775807 < O.size + H.size + RG.size := by omega
        have z3 : ¬ 9223372036854775807 < O.size + H.size + RG.size + 8 := by omega
        have z4 : ¬ 9223372036854775807 < O.size + H.size + RG.size + 8 + MD.size := by omega
        have z5 : ¬ 9223372036854775807 < O.size + H.size + RG.size + 8 + MD.size + 1 := by omega
        have z6 : ¬ 9223372036854775807 < O.size + H.size + RG.size + 8 + MD.size + 1 + LZ.size := by omega
        have z7 : ¬ 9223372036854775807 < O.size + H.size + RG.size + 8 + MD.size + 1 + LZ.size + 2 := by omega
        clear htl hsO hsH hsA hsR hsL hsM
        go_wp2_with fail
        go_quiet (first | (go_at_call 19; exact Calls.quiet_of_same (HMQ.out _)))
        go_wp2_with fail
        go_roundw
        case rel => exact ⟨j + 1, by go_num, by omega, by rw [← HTX.out], by first | exact HB1.out | exact below_drewN HB1.out _⟩
        case measure => simp [intOf]; omega
      · skip
        by_cases k3 : kd = 3
        · subst k3
          have htl := HTL.out
          rw [show P.xS (.mk 3 md rg lc ar th el) d = P.ind d ++ (([115, 116, 111, 114, 101] ++ [32]) ++ ((P.xM md ++ [32]) ++ ((lc ++ [32]) ++ (kidT ar 0 ++ ([59] ++ [10]))))) by simp [P.xS, kidT]] at htl
          have HTX := Lib.hid (show ((((((((bs (P.xSs (l.take j) d) ++ bs (P.ind d)) ++ ⟨#[115, 116, 111, 114, 101, 32]⟩) ++ bs (P.xM md)) ++ ⟨#[32]⟩) ++ bs lc) ++ ⟨#[32]⟩) ++ bs (kidT ar 0)) ++ ⟨#[59, 10]⟩) = bs (P.xSs (l.take (j + 1)) d) by
            rw [t_store, HTK.out]
            simp [P.xS, kidT])
          have HMD := Lib.hid (fun w => modeX_text md w)
          have HMQ := Lib.hid (fun w => (modeX_text md w).mono fun e w' h => (show e = .returned (.string (bs (P.xM md))) ∧ w' = w from ⟨h.1, h.2.symm⟩))
          have hsM : (bs (P.xM md)).size = (P.xM md).length := bs_size _
          simp only [List.length_append, List.length_cons, List.length_nil] at htl
          generalize bs (P.xSs (l.take j) d) = O at *
          generalize bs (P.ind d) = H at *
          generalize bs (kidT ar 0) = A at *
          generalize bs (P.xM md) = MD at *
          generalize bs rg = RG at *
          generalize bs lc = LZ at *
          have z1 : ¬ 9223372036854775807 < O.size + H.size := by omega
          have z2 : ¬ 9223372036854775807 < O.size + H.size + 6 := by omega
          have z3 : ¬ 9223372036854775807 < O.size + H.size + 6 + MD.size := by omega
          have z4 : ¬ 9223372036854775807 < O.size + H.size + 6 + MD.size + 1 := by omega
          have z5 : ¬ 9223372036854775807 < O.size + H.size + 6 + MD.size + 1 + LZ.size := by omega
          have z6 : ¬ 9223372036854775807 < O.size + H.size + 6 + MD.size + 1 + LZ.size + 1 := by omega
          have z7 : ¬ 9223372036854775807 < O.size + H.size + 6 + MD.size + 1 + LZ.size + 1 + A.size := by omega
          have z8 : ¬ 9223372036854775807 < O.size + H.size + 6 + MD.size + 1 + LZ.size + 1 + A.size + 2 := by omega
          clear htl hsO hsH hsA hsR hsL hsM
          go_wp2_with fail
          go_quiet (first | (go_at_call 19; exact Calls.quiet_of_same (HMQ.out _)))
          go_wp2_with fail
          go_roundw
          case rel => exact ⟨j + 1, by go_num, by omega, by rw [← HTX.out], by first | exact HB1.out | exact below_drewN HB1.out _⟩
          case measure => simp [intOf]; omega
        · skip
          by_cases k4 : kd = 4
          · subst k4
            have htl := HTL.out
            rw [show P.xS (.mk 4 md rg lc ar th el) d = P.ind d ++ ((rg ++ [32]) ++ ([61] ++ ([32] ++ (([97, 100, 100] ++ [32]) ++ ((P.xM md ++ [32]) ++ ((lc ++ [32]) ++ (kidT ar 0 ++ ([59] ++ [10])))))))) by simp [P.xS, kidT]] at htl
            have HTX := Lib.hid (show (((((((((bs (P.xSs (l.take j) d) ++ bs (P.ind d)) ++ bs rg) ++ ⟨#[32, 61, 32, 97, 100, 100, 32]⟩) ++ bs (P.xM md)) ++ ⟨#[32]⟩) ++ bs lc) ++ ⟨#[32]⟩) ++ bs (kidT ar 0)) ++ ⟨#[59, 10]⟩) = bs (P.xSs (l.take (j + 1)) d) by
              rw [t_add, HTK.out]
              simp [P.xS, kidT])
            have HMD := Lib.hid (fun w => modeX_text md w)
            have HMQ := Lib.hid (fun w => (modeX_text md w).mono fun e w' h => (show e = .returned (.string (bs (P.xM md))) ∧ w' = w from ⟨h.1, h.2.symm⟩))
            have hsM : (bs (P.xM md)).size = (P.xM md).length := bs_size _
            simp only [List.length_append, List.length_cons, List.length_nil] at htl
            generalize bs (P.xSs (l.take j) d) = O at *
            generalize bs (P.ind d) = H at *
            generalize bs (kidT ar 0) = A at *
            generalize bs (P.xM md) = MD at *
            generalize bs rg = RG at *
            generalize bs lc = LZ at *
            have z1 : ¬ 9223372036854775807 < O.size + H.size := by omega
            have z2 : ¬ 9223372036854775807 < O.size + H.size + RG.size := by omega
            have z3 : ¬ 9223372036854775807 < O.size + H.size + RG.size + 7 := by omega
            have z4 : ¬ 9223372036854775807 < O.size + H.size + RG.size + 7 + MD.size := by omega
            have z5 : ¬ 9223372036854775807 < O.size + H.size + RG.size + 7 + MD.size + 1 := by omega
            have z6 : ¬ 9223372036854775807 < O.size + H.size + RG.size + 7 + MD.size + 1 + LZ.size := by omega
            have z7 : ¬ 9223372036854775807 < O.size + H.size + RG.size + 7 + MD.size + 1 + LZ.size + 1 := by omega
            have z8 : ¬ 9223372036854775807 < O.size + H.size + RG.size + 7 + MD.size + 1 + LZ.size + 1 + A.size := by omega
            have z9 : ¬ 9223372036854775807 < O.size + H.size + RG.size + 7 + MD.size + 1 + LZ.size + 1 + A.size + 2 := by omega
            clear htl hsO hsH hsA hsR hsL hsM
            go_wp2_with fail
            go_quiet (first | (go_at_call 19; exact Calls.quiet_of_same (HMQ.out _)))
            go_wp2_with fail
            go_roundw
            case rel => exact ⟨j + 1, by go_num, by omega, by rw [← HTX.out], by first | exact HB1.out | exact below_drewN HB1.out _⟩
            case measure => simp [intOf]; omega
          · skip
            by_cases k6 : kd = 6
            · subst k6
              have htl := HTL.out
              rw [show P.xS (.mk 6 md rg lc ar th el) d = P.ind d ++ (([102, 101, 110, 99, 101] ++ [32]) ++ (P.xM md ++ ([59] ++ [10]))) by simp [P.xS, kidT]] at htl
              have HTX := Lib.hid (show ((((bs (P.xSs (l.take j) d) ++ bs (P.ind d)) ++ ⟨#[102, 101, 110, 99, 101, 32]⟩) ++ bs (P.xM md)) ++ ⟨#[59, 10]⟩) = bs (P.xSs (l.take (j + 1)) d) by
                rw [t_fence, HTK.out]
                simp [P.xS, kidT])
              have HMD := Lib.hid (fun w => modeX_text md w)
              have HMQ := Lib.hid (fun w => (modeX_text md w).mono fun e w' h => (show e = .returned (.string (bs (P.xM md))) ∧ w' = w from ⟨h.1, h.2.symm⟩))
              have hsM : (bs (P.xM md)).size = (P.xM md).length := bs_size _
              simp only [List.length_append, List.length_cons, List.length_nil] at htl
              generalize bs (P.xSs (l.take j) d) = O at *
              generalize bs (P.ind d) = H at *
              generalize bs (kidT ar 0) = A at *
              generalize bs (P.xM md) = MD at *
              generalize bs rg = RG at *
              generalize bs lc = LZ at *
              have z1 : ¬ 9223372036854775807 < O.size + H.size := by omega
              have z2 : ¬ 9223372036854775807 < O.size + H.size + 6 := by omega
              have z3 : ¬ 9223372036854775807 < O.size + H.size + 6 + MD.size := by omega
              have z4 : ¬ 9223372036854775807 < O.size + H.size + 6 + MD.size + 2 := by omega
              clear htl hsO hsH hsA hsR hsL hsM
              go_wp2_with fail
              with_reducible refine (HMD.out _).mono ?_
              rintro e w2 ⟨rfl, rfl⟩
              go_wp2_with fail
              go_roundw
              case rel => exact ⟨j + 1, by go_num, by omega, by rw [← HTX.out], by first | exact HB1.out | exact below_drewN HB1.out _⟩
              case measure => simp [intOf]; omega
            · skip
              by_cases k5 : kd = 5
              · subst k5
                have htl := HTL.out
                rw [show P.xS (.mk 5 md rg lc ar th el) d = P.ind d ++ ((rg ++ [32]) ++ ([61] ++ ([32] ++ (([99, 97, 115] ++ [32]) ++ ((P.xM md ++ [32]) ++ ((lc ++ [32]) ++ (kidT ar 0 ++ ([44] ++ ([32] ++ (kidT ar 1 ++ ([59] ++ [10]))))))))))) by simp [P.xS, kidT]] at htl
                have HTX := Lib.hid (show (((((((((((bs (P.xSs (l.take j) d) ++ bs (P.ind d)) ++ bs rg) ++ ⟨#[32, 61, 32, 99, 97, 115, 32]⟩) ++ bs (P.xM md)) ++ ⟨#[32]⟩) ++ bs lc) ++ ⟨#[32]⟩) ++ bs (kidT ar 0)) ++ ⟨#[44, 32]⟩) ++ bs (kidT ar 1)) ++ ⟨#[59, 10]⟩) = bs (P.xSs (l.take (j + 1)) d) by
                  rw [t_cas, HTK.out]
                  simp [P.xS, kidT])
                have HMD := Lib.hid (fun w => modeX_text md w)
                have hsM : (bs (P.xM md)).size = (P.xM md).length := bs_size _
                have hsB : (bs (kidT ar 1)).size = (kidT ar 1).length := bs_size _
                simp only [List.length_append, List.length_cons, List.length_nil] at htl
                generalize bs (P.xSs (l.take j) d) = O at *
                generalize bs (P.ind d) = H at *
                generalize bs (kidT ar 0) = A at *
                generalize bs (kidT ar 1) = BB at *
                generalize bs (P.xM md) = MD at *
                generalize bs rg = RG at *
                generalize bs lc = LZ at *
                have z1 : ¬ 9223372036854775807 < O.size + H.size := by omega
                have z2 : ¬ 9223372036854775807 < O.size + H.size + RG.size := by omega
                have z3 : ¬ 9223372036854775807 < O.size + H.size + RG.size + 7 := by omega
                have z4 : ¬ 9223372036854775807 < O.size + H.size + RG.size + 7 + MD.size := by omega
                have z5 : ¬ 9223372036854775807 < O.size + H.size + RG.size + 7 + MD.size + 1 := by omega
                have z6 : ¬ 9223372036854775807 < O.size + H.size + RG.size + 7 + MD.size + 1 + LZ.size := by omega
                have z7 : ¬ 9223372036854775807 < O.size + H.size + RG.size + 7 + MD.size + 1 + LZ.size + 1 := by omega
                have z8 : ¬ 9223372036854775807 < O.size + H.size + RG.size + 7 + MD.size + 1 + LZ.size + 1 + A.size := by omega
                have z9 : ¬ 9223372036854775807 < O.size + H.size + RG.size + 7 + MD.size + 1 + LZ.size + 1 + A.size + 2 := by omega
                have z10 : ¬ 9223372036854775807 < O.size + H.size + RG.size + 7 + MD.size + 1 + LZ.size + 1 + A.size + 2 + BB.size := by omega
                have z11 : ¬ 9223372036854775807 < O.size + H.size + RG.size + 7 + MD.size + 1 + LZ.size + 1 + A.size + 2 + BB.size + 2 := by omega
                clear htl hsO hsH hsA hsR hsL hsM hsB
                go_wp2_with fail
                have HW7 := Lib.hid (fun (w' : World) (hb : Below w1.heap.size w1 w') => (show w'.cell? ⟨wr.heap.size, 1, none⟩ = some (.int .i64 md) ∧ w'.cell? ⟨wr.heap.size, 2, none⟩ = some (.string RG) ∧ w'.cell? ⟨wr.heap.size, 3, none⟩ = some (.string LZ) ∧ w'.cell? ⟨wr.heap.size, 4, none⟩ = some (.slice aa ar.length ca) from by
                  have hb2 := HS1.out.live' hb
                  exact ⟨hb2.cell 1, hb2.cell 2, hb2.cell 3, hb2.cell 4⟩))
                have HKS := Lib.hid (HW7.out w1 (Below.refl _ _))
                have HKD := Lib.hid (HW7.out w1.drew (below_one w1))
                have HKC := Lib.hid (HKB.out _ w1.drew (Below.isXs (below_one w1) HX1.out))
                clear s0 s1 s2 s3 s4 s5 s6
                go_region_held3 (fun w' => w'.cell? ⟨wr.heap.size, 1, none⟩ = some (.int .i64 md) ∧ w'.cell? ⟨wr.heap.size, 2, none⟩ = some (.string RG) ∧ w'.cell? ⟨wr.heap.size, 3, none⟩ = some (.string LZ) ∧ w'.cell? ⟨wr.heap.size, 4, none⟩ = some (.slice aa ar.length ca))
                  (first
                    | with_reducible exact HKS.out
                    | with_reducible exact HKD.out
                    | with_reducible assumption
                    | go_keep)
                  (first
                    | (go_at_call 19; (with_reducible refine (HMD.out _).mono ?_); rintro e w9 ⟨rfl, rfl⟩)
                    | (go_at_call 38; (with_reducible refine HKC.out.mono ?_); rintro e w7 ⟨rfl, hb7⟩; have HB7 := Lib.hid ((below_one w1).trans (hb7.mono (Nat.le_refl _))); have hS7 := HW7.out w7 HB7.out; clear hb7))
                all_goals
                  go_wp2_with fail
                  go_roundw
                  case rel => exact ⟨j + 1, by go_num, by omega, by rw [← HTX.out], HB1.out.trans (HB7.out.mono (by omega))⟩
                  case measure => simp [intOf]; omega
              by_cases k7 : kd = 7
              · subst k7
                by_cases hne : el = []
                · have htl := HTL.out
                  rw [show P.xS (.mk 7 md rg lc ar th el) d = P.ind d ++ (([105, 102] ++ [32]) ++ ((kidT ar 0 ++ ([32] ++ ([123] ++ [10]))) ++ (P.xSs th (d + 1) ++ (P.ind d ++ ([125] ++ [10]))))) by simp [P.xS, kidT, hne]] at htl
                  have HTX := Lib.hid (show (((((((bs (P.xSs (l.take j) d) ++ bs (P.ind d)) ++ ⟨#[105, 102, 32]⟩) ++ bs (kidT ar 0)) ++ ⟨#[32, 123, 10]⟩) ++ bs (P.xSs th (d + 1))) ++ bs (P.ind d)) ++ ⟨#[125, 10]⟩) = bs (P.xSs (l.take (j + 1)) d) by
                    rw [t_if, HTK.out]
                    simp [P.xS, kidT, hne])
                  have hsU : (bs (P.xSs th (d + 1))).size = (P.xSs th (d + 1)).length := bs_size _
                  have hsE : (bs (P.xSs el (d + 1))).size = (P.xSs el (d + 1)).length := bs_size _
                  simp only [List.length_append, List.length_cons, List.length_nil] at htl
                  have hpos : el.length = 0 := by rw [hne]; rfl
                  have f1 : decide ((0 : Int) < (el.length : Int)) = false := decide_eq_false (by omega)
                  have f2 : decide (0 < el.length) = false := decide_eq_false (by omega)
                  clear hne
                  generalize bs (P.xSs (l.take j) d) = O at *
                  generalize bs (P.ind d) = H at *
                  generalize bs (kidT ar 0) = A at *
                  generalize bs (P.xSs th (d + 1)) = U at *
                  generalize bs (P.xSs el (d + 1)) = E at *
                  generalize bs rg = RG at *
                  generalize bs lc = LZ at *
                  have z1 : ¬ 9223372036854775807 < O.size + H.size := by omega
                  have z2 : ¬ 9223372036854775807 < O.size + H.size + 3 := by omega
                  have z3 : ¬ 9223372036854775807 < O.size + H.size + 3 + A.size := by omega
                  have z4 : ¬ 9223372036854775807 < O.size + H.size + 3 + A.size + 3 := by omega
                  have z5 : ¬ 9223372036854775807 < O.size + H.size + 3 + A.size + 3 + U.size := by omega
                  have z6 : ¬ 9223372036854775807 < O.size + H.size + 3 + A.size + 3 + U.size + H.size := by omega
                  have z7 : ¬ 9223372036854775807 < O.size + H.size + 3 + A.size + 3 + U.size + H.size + 2 := by omega
                  clear htl hsO hsH hsA hsR hsL hsU hsE hpos
                  go_wp2_with fail
                  with_reducible refine (HK1.out _ _ _ (by omega) HT1.out).mono ?_
                  rintro e w3 ⟨rfl, hb3⟩
                  have HS3 := Lib.hid (HS1.out.live' hb3)
                  have HB3 := Lib.hid (HB1.out.trans (hb3.mono (by omega)))
                  have HE3 := Lib.hid (Below.isSs hb3 HE1.out)
                  have hs3 := hb3.size
                  clear hb3 s0 s1 s2 s3 s4 s5 s6
                  obtain ⟨s0, s1, s2, s3, s4, s5, s6, _, _, _, _, _, _, _⟩ := seven_free HS3.out
                  go_wp2_with fail
                  go_roundw
                  case rel => exact ⟨j + 1, by go_num, by omega, by rw [← HTX.out], HB3.out⟩
                  case measure => simp [intOf]; omega
                · have htl := HTL.out
                  rw [show P.xS (.mk 7 md rg lc ar th el) d = P.ind d ++ (([105, 102] ++ [32]) ++ ((kidT ar 0 ++ ([32] ++ ([123] ++ [10]))) ++ (P.xSs th (d + 1) ++ ((P.ind d ++ ([125] ++ ([32] ++ (([101, 108, 115, 101] ++ [32]) ++ ([123] ++ [10]))))) ++ (P.xSs el (d + 1) ++ (P.ind d ++ ([125] ++ [10]))))))) by simp [P.xS, kidT, hne]] at htl
                  have HTX := Lib.hid (show ((((((((((bs (P.xSs (l.take j) d) ++ bs (P.ind d)) ++ ⟨#[105, 102, 32]⟩) ++ bs (kidT ar 0)) ++ ⟨#[32, 123, 10]⟩) ++ bs (P.xSs th (d + 1))) ++ bs (P.ind d)) ++ ⟨#[125, 32, 101, 108, 115, 101, 32, 123, 10]⟩) ++ bs (P.xSs el (d + 1))) ++ bs (P.ind d)) ++ ⟨#[125, 10]⟩) = bs (P.xSs (l.take (j + 1)) d) by
                    rw [t_ife, HTK.out]
                    simp [P.xS, kidT, hne])
                  have hsU : (bs (P.xSs th (d + 1))).size = (P.xSs th (d + 1)).length := bs_size _
                  have hsE : (bs (P.xSs el (d + 1))).size = (P.xSs el (d + 1)).length := bs_size _
                  simp only [List.length_append, List.length_cons, List.length_nil] at htl
                  have hpos : 0 < el.length := List.length_pos_iff.2 hne
                  have f1 : decide ((0 : Int) < (el.length : Int)) = true := decide_eq_true (by omega)
                  have f2 : decide (0 < el.length) = true := decide_eq_true hpos
                  clear hne
                  generalize bs (P.xSs (l.take j) d) = O at *
                  generalize bs (P.ind d) = H at *
                  generalize bs (kidT ar 0) = A at *
                  generalize bs (P.xSs th (d + 1)) = U at *
                  generalize bs (P.xSs el (d + 1)) = E at *
                  generalize bs rg = RG at *
                  generalize bs lc = LZ at *
                  have z1 : ¬ 9223372036854775807 < O.size + H.size := by omega
                  have z2 : ¬ 9223372036854775807 < O.size + H.size + 3 := by omega
                  have z3 : ¬ 9223372036854775807 < O.size + H.size + 3 + A.size := by omega
                  have z4 : ¬ 9223372036854775807 < O.size + H.size + 3 + A.size + 3 := by omega
                  have z5 : ¬ 9223372036854775807 < O.size + H.size + 3 + A.size + 3 + U.size := by omega
                  have z6 : ¬ 9223372036854775807 < O.size + H.size + 3 + A.size + 3 + U.size + H.size := by omega
                  have z7 : ¬ 9223372036854775807 < O.size + H.size + 3 + A.size + 3 + U.size + H.size + 9 := by omega
                  have z8 : ¬ 9223372036854775807 < O.size + H.size + 3 + A.size + 3 + U.size + H.size + 9 + E.size := by omega
                  have z9 : ¬ 9223372036854775807 < O.size + H.size + 3 + A.size + 3 + U.size + H.size + 9 + E.size + H.size := by omega
                  have z10 : ¬ 9223372036854775807 < O.size + H.size + 3 + A.size + 3 + U.size + H.size + 9 + E.size + H.size + 2 := by omega
                  clear htl hsO hsH hsA hsR hsL hsU hsE hpos
                  go_wp2_with fail
                  with_reducible refine (HK1.out _ _ _ (by omega) HT1.out).mono ?_
                  rintro e w3 ⟨rfl, hb3⟩
                  have HS3 := Lib.hid (HS1.out.live' hb3)
                  have HB3 := Lib.hid (HB1.out.trans (hb3.mono (by omega)))
                  have HE3 := Lib.hid (Below.isSs hb3 HE1.out)
                  have hs3 := hb3.size
                  clear hb3 s0 s1 s2 s3 s4 s5 s6
                  obtain ⟨s0, s1, s2, s3, s4, s5, s6, _, _, _, _, _, _, _⟩ := seven_free HS3.out
                  go_wp2_with fail
                  with_reducible refine (HK2.out _ _ _ (by omega) HE3.out).mono ?_
                  rintro e w4 ⟨rfl, hb4⟩
                  have HB4 := Lib.hid (HB3.out.trans (hb4.mono (by omega)))
                  clear hb4
                  go_wp2_with fail
                  go_roundw
                  case rel => exact ⟨j + 1, by go_num, by omega, by rw [← HTX.out], HB4.out⟩
                  case measure => simp [intOf]; omega
              have HTX := Lib.hid (show bs (P.xSs (l.take j) d) = bs (P.xSs (l.take (j + 1)) d) by
                rw [HTK.out]
                simp [P.xS, k1, k2, k3, k4, k5, k6, k7])
              have e1 : (kd == 1) = false := by simp; omega
              have e2 : (kd == 2) = false := by simp; omega
              have e3 : (kd == 3) = false := by simp; omega
              have e4 : (kd == 4) = false := by simp; omega
              have e5 : (kd == 5) = false := by simp; omega
              have e6 : (kd == 6) = false := by simp; omega
              have e7 : (kd == 7) = false := by simp; omega
              generalize bs (P.xSs (l.take j) d) = O at *
              go_wp2_with fail
              go_roundw
              case rel => exact ⟨j + 1, by go_num, by omega, by rw [← HTX.out], HB1.out⟩
              case measure => simp [intOf]; omega
      -- DONE
    · obtain rfl : j = l.length := by omega
      go_wp2_with fail
      go_ret
      exact ⟨by rw [List.take_length]; rfl, HB.out⟩
end Go.Proofs.YtchokfgffnomoaaDoor.Lx
/-
  What lines of the document's answer tells, as a contract: of statements that are shown.
-/
namespace Go.Proofs.YtchokfgffnomoaaDoor.Lx
open Go.RowKit
open P (EX CO ST TX TS TSs Bo)
set_option maxRecDepth 100000
set_option linter.unusedVariables false
theorem kids_ok (Q : Nat → Prop) {ar : List EX} (h : ∀ e ∈ ar, ∃ t b, TX e t b ∧ t.length ≤ 1000000000000) : KidsOk Q ar := by
  intro i z v w hz hv
  refine kid_text ar i z hz Q v w hv (fun e he v w' hx => ?_)
  obtain ⟨t, b, ht, hl⟩ := h e he
  have := expr_text ht Q v w' hx hl
  rwa [ht.xe] at this
theorem lines_nil (Q : Nat → Prop) (d : Nat) (hd : d ≤ 1000000000000) : LinesOk Q [] d := by
  intro z v w hz hv
  subst hz
  exact lines_step Q d hd [] (by simp [P.xSs]) (fun s hs => by cases hs) v w hv
theorem kids_nil (Q : Nat → Prop) : KidsOk Q [] := kids_ok Q (fun e he => by cases he)
theorem kids_one (Q : Nat → Prop) {e : EX} {t : List UInt8} {b : List Bo} (h : TX e t b) (hl : t.length ≤ 1000000000000) : KidsOk Q [e] := kids_ok Q (fun x hx => by
  rw [List.mem_singleton.1 hx]
  exact ⟨t, b, h, hl⟩)
theorem kids_two (Q : Nat → Prop) {e f : EX} {t u : List UInt8} {b c : List Bo} (h : TX e t b) (hl : t.length ≤ 1000000000000) (h' : TX f u c) (hl' : u.length ≤ 1000000000000) : KidsOk Q [e, f] := kids_ok Q (fun x hx => by
  rcases List.mem_cons.1 hx with rfl | hx
  · exact ⟨t, b, h, hl⟩
  · rw [List.mem_singleton.1 hx]
    exact ⟨u, c, h', hl'⟩)
theorem ind_len (d : Nat) : (P.ind d).length = 2 * d := by simp [P.ind]
mutual
theorem st_ok (Q : Nat → Prop) {d : Nat} {s : ST} {t : List UInt8} {b : List Bo} {q : List Nat} (h : TS d s t b q) (hl : t.length ≤ 1000000000000) : StOk Q d s := by
  cases h with
  | set hr hx =>
    simp only [List.length_append, List.length_cons, List.length_nil, ind_len] at hl
    exact ⟨kids_one Q hx (by omega), lines_nil Q _ (by omega), lines_nil Q _ (by omega)⟩
  | load hm hr hlc =>
    simp only [List.length_append, List.length_cons, List.length_nil, ind_len] at hl
    exact ⟨kids_nil Q, lines_nil Q _ (by omega), lines_nil Q _ (by omega)⟩
  | store hm hlc hx =>
    simp only [List.length_append, List.length_cons, List.length_nil, ind_len] at hl
    exact ⟨kids_one Q hx (by omega), lines_nil Q _ (by omega), lines_nil Q _ (by omega)⟩
  | add hm hr hlc hx =>
    simp only [List.length_append, List.length_cons, List.length_nil, ind_len] at hl
    exact ⟨kids_one Q hx (by omega), lines_nil Q _ (by omega), lines_nil Q _ (by omega)⟩
  | cas hm hr hlc hx hf =>
    simp only [List.length_append, List.length_cons, List.length_nil, ind_len] at hl
    exact ⟨kids_two Q hx (by omega) hf (by omega), lines_nil Q _ (by omega), lines_nil Q _ (by omega)⟩
  | fence hm =>
    simp only [List.length_append, List.length_cons, List.length_nil, ind_len] at hl
    exact ⟨kids_nil Q, lines_nil Q _ (by omega), lines_nil Q _ (by omega)⟩
  | ifs hx ht =>
    simp only [List.length_append, List.length_cons, List.length_nil, ind_len] at hl
    exact ⟨kids_one Q hx (by omega), lines_ok Q ht (by omega) (by omega), lines_nil Q _ (by omega)⟩
  | ife hx ht hne he =>
    simp only [List.length_append, List.length_cons, List.length_nil, ind_len] at hl
    exact ⟨kids_one Q hx (by omega), lines_ok Q ht (by omega) (by omega), lines_ok Q he (by omega) (by omega)⟩
theorem sts_ok (Q : Nat → Prop) {d : Nat} {l : List ST} {t : List UInt8} {b : List Bo} {q : List Nat} (h : TSs d l t b q) (hl : t.length ≤ 1000000000000) : ∀ s ∈ l, StOk Q d s := by
  cases h with
  | nil => exact fun s hs => by cases hs
  | cons hs hr =>
    rw [List.length_append] at hl
    intro x hx
    rcases List.mem_cons.1 hx with e | hx
    · rw [e]
      exact st_ok Q hs (by omega)
    · exact sts_ok Q hr (by omega) x hx
/-- The lines of statements that are shown are told. -/
theorem lines_ok (Q : Nat → Prop) {d : Nat} {l : List ST} {t : List UInt8} {b : List Bo} {q : List Nat} (h : TSs d l t b q) (hl : t.length ≤ 1000000000000) (hd : d ≤ 1000000000000) : LinesOk Q l d := by
  intro z v w hz hv
  rw [hz]
  exact lines_step Q d hd l (by rw [← h.xss]; exact hl) (sts_ok Q h hl) v w hv
end
end Go.Proofs.YtchokfgffnomoaaDoor.Lx
