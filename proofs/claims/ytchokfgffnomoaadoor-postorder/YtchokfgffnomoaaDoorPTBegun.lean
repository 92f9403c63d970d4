/-
  That post does something: begun; the names and the outcomes that the statements make.
-/
import Derived.Test.YtchokfgffnomoaaDoorPTTop
import Derived.Test.YtchokfgffnomoaaDoorPTOrd
import Derived.Test.YtchokfgffnomoaaDoorPTLn2
namespace Go.Proofs.YtchokfgffnomoaaDoor.Lx
open Go.RowKit
open P (CO hd ordO)
set_option maxRecDepth 100000
set_option linter.unusedVariables false
set_option linter.unusedSimpArgs false
theorem blk_at {w : World} {g : Nat} (t : TypeId) (cs : Array Value) (h : w.heap.size = g) : Blk (w.alloc (.cells cs t)) g t cs := by
  subst h
  exact Blk.new w t cs
/-- A row of one name, of two names. -/
theorem nms_one {w : World} {g : Nat} {t : TypeId} {a : List UInt8} {x : ByteArray} (h : Blk w g t #[.string x]) (hx : x = bs a) : Nms (fun _ => True) w (.slice (some ⟨g, 0, none⟩) 1 1) [a] := by
  subst hx
  refine ⟨_, 1, rfl, .inr ⟨g, 0, rfl, trivial, fun i hi => ?_⟩⟩
  obtain rfl : i = 0 := by simp at hi; omega
  exact h.cell 0
theorem nms_two {w : World} {g : Nat} {t : TypeId} {a b : List UInt8} {x y : ByteArray} (h : Blk w g t #[.string x, .string y]) (hx : x = bs a) (hy : y = bs b) : Nms (fun _ => True) w (.slice (some ⟨g, 0, none⟩) 2 2) [a, b] := by
  subst hx hy
  refine ⟨_, 2, rfl, .inr ⟨g, 0, rfl, trivial, fun i hi => ?_⟩⟩
  have : i = 0 ∨ i = 1 := by simp at hi; omega
  rcases this with rfl | rfl
  · exact h.cell 0
  · exact h.cell 1
theorem ivs_one {w : World} {g : Nat} {t : TypeId} {a : Int} (h : Blk w g t #[.int .i64 a]) : Ivs (fun _ => True) w (.slice (some ⟨g, 0, none⟩) 1 1) [a] := by
  refine ⟨_, 1, rfl, .inr ⟨g, 0, rfl, trivial, fun i hi => ?_⟩⟩
  obtain rfl : i = 0 := by simp at hi; omega
  exact h.cell 0
theorem ivs_two {w : World} {g : Nat} {t : TypeId} {a b : Int} (h : Blk w g t #[.int .i64 a, .int .i64 b]) : Ivs (fun _ => True) w (.slice (some ⟨g, 0, none⟩) 2 2) [a, b] := by
  refine ⟨_, 2, rfl, .inr ⟨g, 0, rfl, trivial, fun i hi => ?_⟩⟩
  have : i = 0 ∨ i = 1 := by simp at hi; omega
  rcases this with rfl | rfl
  · exact h.cell 0
  · exact h.cell 1
theorem nss_one {w : World} {g : Nat} {t : TypeId} {u : Value} {a : List (List UInt8)} (h : Blk w g t #[u]) (hu : Nms (fun _ => True) w u a) : NssA w (some ⟨g, 0, none⟩) [a] := by
  refine .inr ⟨g, 0, rfl, fun i hi => ?_⟩
  obtain rfl : i = 0 := by simp at hi; omega
  exact ⟨u, h.cell 0, hu⟩
theorem nss_two {w : World} {g : Nat} {t : TypeId} {u v : Value} {a b : List (List UInt8)} (h : Blk w g t #[u, v]) (hu : Nms (fun _ => True) w u a) (hv : Nms (fun _ => True) w v b) : NssA w (some ⟨g, 0, none⟩) [a, b] := by
  refine .inr ⟨g, 0, rfl, fun i hi => ?_⟩
  have : i = 0 ∨ i = 1 := by simp at hi; omega
  rcases this with rfl | rfl
  · exact ⟨u, h.cell 0, hu⟩
  · exact ⟨v, h.cell 1, hv⟩
theorem vss_one {w : World} {g : Nat} {t : TypeId} {u : Value} {a : List Int} (h : Blk w g t #[u]) (hu : Ivs (fun _ => True) w u a) : VssA w (some ⟨g, 0, none⟩) [a] := by
  refine .inr ⟨g, 0, rfl, fun i hi => ?_⟩
  obtain rfl : i = 0 := by simp at hi; omega
  exact ⟨u, h.cell 0, hu⟩
theorem vss_two {w : World} {g : Nat} {t : TypeId} {u v : Value} {a b : List Int} (h : Blk w g t #[u, v]) (hu : Ivs (fun _ => True) w u a) (hv : Ivs (fun _ => True) w v b) : VssA w (some ⟨g, 0, none⟩) [a, b] := by
  refine .inr ⟨g, 0, rfl, fun i hi => ?_⟩
  have : i = 0 ∨ i = 1 := by simp at hi; omega
  rcases this with rfl | rfl
  · exact ⟨u, h.cell 0, hu⟩
  · exact ⟨v, h.cell 1, hv⟩
theorem w64_in {n : Int} (h : 0 ≤ n) (h' : n ≤ 1000) : W64 n := ⟨by omega, by omega⟩
theorem w64_one {a : Int} (h : 0 ≤ a ∧ a ≤ 1000) : ∀ k, W64 (([a] : List Int).getD k 0) := by
  intro k
  rcases k with _ | k
  · exact w64_in h.1 h.2
  · exact w64_in (by simp) (by simp)
theorem w64_two {a b : Int} (h : 0 ≤ a ∧ a ≤ 1000) (h' : 0 ≤ b ∧ b ≤ 1000) : ∀ k, W64 (([a, b] : List Int).getD k 0) := by
  intro k
  rcases k with _ | _ | k
  · exact w64_in h.1 h.2
  · exact w64_in h'.1 h'.2
  · exact w64_in (by simp) (by simp)
def nL : List (List UInt8) := [[120], [121]]
def nG : List (List (List UInt8)) := [[[97], [98]], [[97], [99]]]
/-- The names of the statements' outcomes. -/
def NamesTo (w : World) (e : Ending) (w' : World) : Prop := ∃ la ga, e = .returned (.tuple #[.slice la 2 2, .slice ga 2 2]) ∧ NamIn w' la ga nL nG 2 ∧ Below w.heap.size w w'
theorem nG_ok : NsOk nG := by
  refine ⟨by decide, fun i => ?_⟩
  rcases i with _ | _ | i <;> simp [nG, maxLen]
theorem sh_n : ShN nL nG := by
  constructor
  · intro i
    rcases i with _ | _ | i <;> simp [nL]
  · intro i k
    rcases i with _ | _ | i <;> rcases k with _ | _ | k <;> simp [nG]
set_option maxHeartbeats 1600000 in
theorem names_any (w : World) : Calls Tryd.prog 29 #[] w (NamesTo w) := by
  go_enter Tryd.func29, Tryd.ntmps29
  go_wp2_with fail
  have b0 := (((Blk.new w 9 #[.string ⟨#[120]⟩, .string ⟨#[121]⟩]).alloc (.cells #[.string ⟨#[97]⟩, .string ⟨#[98]⟩] 9)).alloc (.cells #[.string ⟨#[97]⟩, .string ⟨#[99]⟩] 9)).alloc (.cells #[.slice (some ⟨w.heap.size + 1, 0, none⟩) 2 2, .slice (some ⟨w.heap.size + 2, 0, none⟩) 2 2] 41)
  have b1 := ((blk_at (w := w.alloc (.cells #[.string ⟨#[120]⟩, .string ⟨#[121]⟩] 9)) (g := w.heap.size + 1) 9 #[.string ⟨#[97]⟩, .string ⟨#[98]⟩] (by simp)).alloc (.cells #[.string ⟨#[97]⟩, .string ⟨#[99]⟩] 9)).alloc (.cells #[.slice (some ⟨w.heap.size + 1, 0, none⟩) 2 2, .slice (some ⟨w.heap.size + 2, 0, none⟩) 2 2] 41)
  have b2 := (blk_at (w := (w.alloc (.cells #[.string ⟨#[120]⟩, .string ⟨#[121]⟩] 9)).alloc (.cells #[.string ⟨#[97]⟩, .string ⟨#[98]⟩] 9)) (g := w.heap.size + 2) 9 #[.string ⟨#[97]⟩, .string ⟨#[99]⟩] (by simp)).alloc (.cells #[.slice (some ⟨w.heap.size + 1, 0, none⟩) 2 2, .slice (some ⟨w.heap.size + 2, 0, none⟩) 2 2] 41)
  have b3 := blk_at (w := ((w.alloc (.cells #[.string ⟨#[120]⟩, .string ⟨#[121]⟩] 9)).alloc (.cells #[.string ⟨#[97]⟩, .string ⟨#[98]⟩] 9)).alloc (.cells #[.string ⟨#[97]⟩, .string ⟨#[99]⟩] 9)) (g := w.heap.size + 3) 41 #[.slice (some ⟨w.heap.size + 1, 0, none⟩) 2 2, .slice (some ⟨w.heap.size + 2, 0, none⟩) 2 2] (by simp)
  have hb : Below w.heap.size w ((((w.alloc (.cells #[.string ⟨#[120]⟩, .string ⟨#[121]⟩] 9)).alloc (.cells #[.string ⟨#[97]⟩, .string ⟨#[98]⟩] 9)).alloc (.cells #[.string ⟨#[97]⟩, .string ⟨#[99]⟩] 9)).alloc (.cells #[.slice (some ⟨w.heap.size + 1, 0, none⟩) 2 2, .slice (some ⟨w.heap.size + 2, 0, none⟩) 2 2] 41)) := ((((Below.refl _ _).alloc (Nat.le_refl _) _).alloc (by simp) _).alloc (by simp; omega) _).alloc (by simp; omega) _
  go_ret2
  exact ⟨_, _, rfl, ⟨nms_two b0 rfl rfl, nss_two b3 (nms_two b1 rfl rfl) (nms_two b2 rfl rfl), by decide, nG_ok⟩, hb⟩
/-- An outcome that is made of six numbers. -/
def mR (r0 r1 r2 r3 : Nat) : List (List Int) := [[(r0 : Int) % 3, (r1 : Int) % 3], [(r2 : Int) % 3, (r3 : Int) % 3]]
def mM (r4 r5 : Nat) : List Int := [(r4 : Int) % 3, (r5 : Int) % 3]
def MadeO (r0 r1 r2 r3 r4 r5 : Nat) (w : World) (e : Ending) (w' : World) : Prop := ∃ ra ma, e = .returned (.agg #[.slice ra 2 2, .slice ma 2 2]) ∧ OutIn w' ra ma (mR r0 r1 r2 r3) (mM r4 r5) 2 ∧ Below w.heap.size w w'
set_option maxHeartbeats 1600000 in
theorem made11_any (r0 r1 r2 r3 r4 r5 : Nat) (w : World) (h0 : r0 < 256) (h1 : r1 < 256) (h2 : r2 < 256) (h3 : r3 < 256) (h4 : r4 < 256) (h5 : r5 < 256) : Calls Tryd.prog 30 #[.agg #[.int .u8 (r0 : Nat), .int .u8 (r1 : Nat), .int .u8 (r2 : Nat), .int .u8 (r3 : Nat), .int .u8 (r4 : Nat), .int .u8 (r5 : Nat)]] w (MadeO r0 r1 r2 r3 r4 r5 w) := by
  go_enter Tryd.func30, Tryd.ntmps30
  go_wp2_with fail
  refine bodyPost_ret (results_cell_row rfl _ _ (w.heap.size + 1) 46 #[.slice (some ⟨w.heap.size + 1 + 1 + 1 + 1, 0, none⟩) 2 2, .slice (some ⟨w.heap.size + 1 + 1 + 1 + 1 + 1, 0, none⟩) 2 2] (0, 0) _ rfl (((((blk_at _ _ (by simp)).alloc _).alloc _).alloc _).alloc _) Tryd.underlying46 rfl (by kernel_rfl)) rfl ?_
  refine ⟨_, _, rfl, ⟨vss_two ((blk_at (g := w.heap.size + 1 + 1 + 1 + 1) _ _ (by simp)).alloc _) (ivs_two ((((blk_at (g := w.heap.size + 1 + 1) _ _ (by simp)).alloc _).alloc _).alloc _)) (ivs_two (((blk_at (g := w.heap.size + 1 + 1 + 1) _ _ (by simp)).alloc _).alloc _)), ivs_two (blk_at _ _ (by simp)), ⟨by simp [mR, maxLen], fun i => ?_⟩, by simp [mM, maxLen], w64_two (by omega) (by omega)⟩, ((((((Below.refl _ _).alloc (Nat.le_refl _) _).alloc (by simp) _).alloc (by simp; omega) _).alloc (by simp; omega) _).alloc (by simp; omega) _).alloc (by simp; omega) _⟩
  rcases i with _ | _ | i
  · exact ⟨by simp [mR, maxLen], w64_two (by omega) (by omega)⟩
  · exact ⟨by simp [mR, maxLen], w64_two (by omega) (by omega)⟩
  · refine ⟨by simp [mR], fun k => ?_⟩
    exact w64_in (by simp [mR]) (by simp [mR])
/-- What begun asks of. -/
def bL : List (List UInt8) := [[120]]
def bG : List (List (List UInt8)) := [[[114]]]
theorem ak_b {w : World} {g0 g1 g2 g3 g4 g5 : Nat} {t0 t1 t2 t3 t4 t5 : TypeId} (h0 : Blk w g0 t0 #[.int .i64 1]) (h1 : Blk w g1 t1 #[.slice (some ⟨g0, 0, none⟩) 1 1]) (h2 : Blk w g2 t2 #[.int .i64 0]) (h3 : Blk w g3 t3 #[.string ⟨#[120]⟩]) (h4 : Blk w g4 t4 #[.string ⟨#[114]⟩]) (h5 : Blk w g5 t5 #[.slice (some ⟨g4, 0, none⟩) 1 1]) : AkIn w (some ⟨g3, 0, none⟩) (some ⟨g5, 0, none⟩) (some ⟨g1, 0, none⟩) (some ⟨g2, 0, none⟩) 1 1 bL bG [[1]] [0] := by
  refine ⟨⟨nms_one h3 rfl, nss_one h5 (nms_one h4 rfl), by decide, by decide, fun i => ?_⟩, ⟨vss_one h1 (ivs_one h0), ivs_one h2, ⟨by decide, fun i => ?_⟩, by decide, w64_one (by decide)⟩, ⟨by decide, by decide, fun i => ?_, by decide, fun i => ?_, by decide⟩⟩
  · rcases i with _ | i <;> simp [bG, maxLen]
  · rcases i with _ | i
    · exact ⟨by decide, w64_one (by decide)⟩
    · exact ⟨by simp, fun k => w64_in (by simp) (by simp)⟩
  · rcases i with _ | i <;> simp [bG]
  · rcases i with _ | i <;> simp
theorem sh_b : ShN bL bG := by
  constructor
  · intro i
    rcases i with _ | i <;> simp [bL]
  · intro i k
    rcases i with _ | i <;> rcases k with _ | k <;> simp [bG]
def bC : CO := .mk 2 0 [114] 1 []
def bD : CO := .mk 1 0 [121] 0 []
theorem lc_b (w : World) : LC (fun _ => True) w (.agg #[.int .i64 2, .int .i64 0, .string ⟨#[114]⟩, .int .i64 1, .slice none 0 0]) bC := by
  unfold bC LC
  exact ⟨none, 0, rfl, by decide, .inl rfl⟩
theorem lc_d (w : World) : LC (fun _ => True) w (.agg #[.int .i64 1, .int .i64 0, .string ⟨#[121]⟩, .int .i64 0, .slice none 0 0]) bD := by
  unfold bD LC
  exact ⟨none, 0, rfl, by decide, .inl rfl⟩
theorem hd_b : hd bL bG [[1]] [0] 6 bC = some true := by decide +kernel
theorem hd_d : hd bL bG [[1]] [0] 6 bD = none := by decide +kernel
theorem ln_b : bs (Lib.join (lnp bL bG [[1]] [0]) [32]) = ⟨#[48, 58, 114, 61, 49, 32, 120, 61, 48]⟩ := by decide +kernel
theorem lenE1 : bL.length = 1 := rfl
theorem lenE2 : bG.length = 1 := rfl
theorem lenE3 : ([[1]] : List (List Int)).length = 1 := rfl
theorem lenE4 : ([0] : List Int).length = 1 := rfl
theorem lenE5 : ([[0]] : List (List Int)).length = 1 := rfl
theorem lenE6 : ([] : List Int).length = 0 := rfl
set_option maxHeartbeats 12800000 in
theorem begun11_any {B : Nat} (w : World) (hB : B ≤ w.heap.size) (ht : Tp B w) : Calls Tryd.prog 20 #[] w (BoolTo true w) := by
  go_enter Tryd.func20, Tryd.ntmps20
  go_upto_region 3 with (fail)
  have hak : AkIn (((((((w.alloc (.cells #[.int .i64 1] 3)).alloc (.cells #[.slice (some ⟨w.heap.size, 0, none⟩) 1 1] 44)).alloc (.cells #[.int .i64 0] 3)).alloc (.cells #[.slice (some ⟨w.heap.size + 1, 0, none⟩) 1 1, .slice (some ⟨w.heap.size + 1 + 1, 0, none⟩) 1 1] 46)).alloc (.cells #[.string ⟨#[120]⟩] 9)).alloc (.cells #[.string ⟨#[114]⟩] 9)).alloc (.cells #[.slice (some ⟨w.heap.size + 1 + 1 + 1 + 1 + 1, 0, none⟩) 1 1] 41)) (some ⟨w.heap.size + 1 + 1 + 1 + 1, 0, none⟩) (some ⟨w.heap.size + 1 + 1 + 1 + 1 + 1 + 1, 0, none⟩) (some ⟨w.heap.size + 1, 0, none⟩) (some ⟨w.heap.size + 1 + 1, 0, none⟩) 1 1 bL bG [[1]] [0] := ak_b (g0 := w.heap.size) (((((((blk_at _ _ rfl).alloc _).alloc _).alloc _).alloc _).alloc _).alloc _) (((((((blk_at _ _ (by simp)).alloc _).alloc _).alloc _).alloc _).alloc _)) ((((((blk_at _ _ (by simp)).alloc _).alloc _).alloc _).alloc _)) ((((blk_at _ _ (by simp)).alloc _).alloc _)) (((blk_at (g := w.heap.size + 1 + 1 + 1 + 1 + 1) _ _ (by simp)).alloc _)) (blk_at _ _ (by simp))
  have hq : Blk (((((((w.alloc (.cells #[.int .i64 1] 3)).alloc (.cells #[.slice (some ⟨w.heap.size, 0, none⟩) 1 1] 44)).alloc (.cells #[.int .i64 0] 3)).alloc (.cells #[.slice (some ⟨w.heap.size + 1, 0, none⟩) 1 1, .slice (some ⟨w.heap.size + 1 + 1, 0, none⟩) 1 1] 46)).alloc (.cells #[.string ⟨#[120]⟩] 9)).alloc (.cells #[.string ⟨#[114]⟩] 9)).alloc (.cells #[.slice (some ⟨w.heap.size + 1 + 1 + 1 + 1 + 1, 0, none⟩) 1 1] 41)) (w.heap.size + 1 + 1 + 1) 46 #[.slice (some ⟨w.heap.size + 1, 0, none⟩) 1 1, .slice (some ⟨w.heap.size + 1 + 1, 0, none⟩) 1 1] := (((blk_at _ _ (by simp)).alloc _).alloc _).alloc _
  have hb : Below w.heap.size w (((((((w.alloc (.cells #[.int .i64 1] 3)).alloc (.cells #[.slice (some ⟨w.heap.size, 0, none⟩) 1 1] 44)).alloc (.cells #[.int .i64 0] 3)).alloc (.cells #[.slice (some ⟨w.heap.size + 1, 0, none⟩) 1 1, .slice (some ⟨w.heap.size + 1 + 1, 0, none⟩) 1 1] 46)).alloc (.cells #[.string ⟨#[120]⟩] 9)).alloc (.cells #[.string ⟨#[114]⟩] 9)).alloc (.cells #[.slice (some ⟨w.heap.size + 1 + 1 + 1 + 1 + 1, 0, none⟩) 1 1] 41)) := (((((((Below.refl _ _).alloc (Nat.le_refl _) _).alloc (by simp) _).alloc (by simp; omega) _).alloc (by simp; omega) _).alloc (by simp; omega) _).alloc (by simp; omega) _).alloc (by simp; omega) _
  have HAK := Lib.hid hak
  have HQ := Lib.hid hq
  have HB := Lib.hid hb
  have HT := Lib.hid (ht.low hB hb)
  clear hak hq hb ht
  generalize (((((((w.alloc (.cells #[.int .i64 1] 3)).alloc (.cells #[.slice (some ⟨w.heap.size, 0, none⟩) 1 1] 44)).alloc (.cells #[.int .i64 0] 3)).alloc (.cells #[.slice (some ⟨w.heap.size + 1, 0, none⟩) 1 1, .slice (some ⟨w.heap.size + 1 + 1, 0, none⟩) 1 1] 46)).alloc (.cells #[.string ⟨#[120]⟩] 9)).alloc (.cells #[.string ⟨#[114]⟩] 9)).alloc (.cells #[.slice (some ⟨w.heap.size + 1 + 1 + 1 + 1 + 1, 0, none⟩) 1 1] 41)) = W at *
  have hsz := HB.out.size
  have HC := Lib.hid (fun w' (hb : Below W.heap.size W w') => postHolds_any (gc := 1) (rc := 1) bC w' _ _ _ _ _ _ _ (HAK.out.low hb) (lc_b w'))
  have HD := Lib.hid (fun w' (hb : Below W.heap.size W w') => postHolds_any (gc := 1) (rc := 1) bD w' _ _ _ _ _ _ _ (HAK.out.low hb) (lc_d w'))
  have HL := Lib.hid (fun w' (hb : Below W.heap.size W w') => postLine_any (B := B) (gc := 1) (rc := 1) (HAK.out.low hb) sh_b (by have := hb.size; omega) (HT.out.low (by omega) hb))
  rw [hd_b] at HC
  rw [hd_d] at HD
  rw [ln_b] at HL
  unfold HoTo holdR at HC HD
  have HSO : Hid (SmO [[1]] [0]) := Lib.hid ⟨by decide, fun i => by rcases i with _ | i <;> simp, by decide⟩
  have HSZ : Hid (SmO [[0]] []) := Lib.hid ⟨by decide, fun i => by rcases i with _ | i <;> simp, by decide⟩
  have HS := Lib.hid (fun w' (hb : Below W.heap.size W w') => postSame_any (rc := 1) (rc' := 1) true (HAK.out.low hb).out (HAK.out.low hb).out HSO.out HSO.out (by decide +kernel))
  have HN := Lib.hid (fun w' (hb : Below W.heap.size W w') => postLess_any (rc := 1) (rc' := 1) false (HAK.out.low hb).out (HAK.out.low hb).out HSO.out HSO.out (by decide +kernel))
  have HY := Lib.hid (fun w' ra (hb : Below W.heap.size W w') (ho : OutIn w' ra none [[0]] [] 0) => postLess_any (rc := 1) (rc' := 1) true ho (HAK.out.low hb).out HSZ.out HSO.out (by decide +kernel))
  simp only [lenE1, lenE2, lenE3, lenE4, lenE5, lenE6] at HC HD HL HS HN HY
  obtain ⟨p0, p1⟩ := two_freeP HQ.out
  go_wp2_with fail
  with_reducible refine (HC.out _ (Below.refl _ _)).mono ?_
  rintro e w1 ⟨rfl, hb1⟩
  have HB1 := Lib.hid hb1
  obtain ⟨q0, q1⟩ := two_freeP (HQ.out.live' hb1)
  clear p0 p1 hb1 HC
  go_wp2_with fail
  with_reducible refine (HD.out _ HB1.out).mono ?_
  rintro e w2 ⟨rfl, hb2⟩
  have HB2 := Lib.hid (HB1.out.trans (hb2.mono HB1.out.size))
  obtain ⟨p0, p1⟩ := two_freeP (HQ.out.live' HB2.out)
  clear q0 q1 hb2 HD HB1
  go_wp2_with fail
  with_reducible refine (HL.out _ HB2.out).mono ?_
  rintro e w3 ⟨rfl, hb3⟩
  have HB3 := Lib.hid (HB2.out.trans (hb3.mono HB2.out.size))
  obtain ⟨q0, q1⟩ := two_freeP (HQ.out.live' HB3.out)
  clear p0 p1 hb3 HL HB2
  go_wp2_with fail
  with_reducible refine (HS.out _ HB3.out).mono ?_
  rintro e w4 ⟨rfl, hb4⟩
  have HB4 := Lib.hid (HB3.out.trans (hb4.mono HB3.out.size))
  have hs4 := HB4.out.size
  have hb5 : Below W.heap.size W ((w4.alloc (.cells #[.int .i64 0] 3)).alloc (.cells #[.slice (some ⟨w4.heap.size, 0, none⟩) 1 1] 44)) := (HB4.out.alloc (by omega) _).alloc (by simp; omega) _
  have HOO := Lib.hid (show OutIn ((w4.alloc (.cells #[.int .i64 0] 3)).alloc (.cells #[.slice (some ⟨w4.heap.size, 0, none⟩) 1 1] 44)) (some ⟨w4.heap.size + 1, 0, none⟩) none [[0]] [] 0 from ⟨vss_one (blk_at _ _ (by simp)) (ivs_one ((blk_at (g := w4.heap.size) _ _ rfl).alloc _)), ⟨none, 0, rfl, .inl rfl⟩, ⟨by decide, fun i => by
    rcases i with _ | i
    · exact ⟨by decide, w64_one (by decide)⟩
    · exact ⟨by simp, fun k => w64_in (by simp) (by simp)⟩⟩, by decide, fun k => w64_in (by simp) (by simp)⟩)
  have HB5 := Lib.hid hb5
  obtain ⟨p0, p1⟩ := two_freeP (HQ.out.live' HB4.out)
  obtain ⟨p2, p3⟩ := two_freeP (HQ.out.live' HB5.out)
  clear q0 q1 hb4 hb5 HS HB3
  go_wp2_with fail
  with_reducible refine (HY.out _ _ HB5.out HOO.out).mono ?_
  rintro e w6 ⟨rfl, hb6⟩
  have HB6 := Lib.hid (HB5.out.trans (hb6.mono HB5.out.size))
  obtain ⟨q0, q1⟩ := two_freeP (HQ.out.live' HB6.out)
  clear p0 p1 p2 p3 hb6 HY HB5 HOO
  go_wp2_with fail
  with_reducible refine (HN.out _ HB6.out).mono ?_
  rintro e w7 ⟨rfl, hb7⟩
  have HB7 := Lib.hid (HB6.out.trans (hb7.mono HB6.out.size))
  clear q0 q1 hb7 HN HB6
  go_wp2_with fail
  go_ret
  exact ⟨rfl, HB.out.trans (HB7.out.mono hsz)⟩
end Go.Proofs.YtchokfgffnomoaaDoor.Lx
