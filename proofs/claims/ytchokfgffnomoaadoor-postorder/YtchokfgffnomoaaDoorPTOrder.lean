/-
  PostOrder's walk: for every three outcomes the call returns true.
-/
import Derived.Test.YtchokfgffnomoaaDoorPTOMath
namespace Go.Proofs.YtchokfgffnomoaaDoor.Lx
open Go.RowKit
open P (CO hd plI hasP ordO ordI ordR ordO_anti ordO_zero ordO_self ordO_trans)
set_option maxRecDepth 100000
set_option linter.unusedVariables false
set_option linter.unusedSimpArgs false
theorem six_cells {w : World} {g : Nat} {t : TypeId} {a b c d e f : Value} (h : Blk w g t #[a, b, c, d, e, f]) : w.cell? ⟨g, 0, none⟩ = some a ∧ w.cell? ⟨g, 1, none⟩ = some b ∧ w.cell? ⟨g, 2, none⟩ = some c ∧ w.cell? ⟨g, 3, none⟩ = some d ∧ w.cell? ⟨g, 4, none⟩ = some e ∧ w.cell? ⟨g, 5, none⟩ = some f := ⟨h.cell 0, h.cell 1, h.cell 2, h.cell 3, h.cell 4, h.cell 5⟩
theorem bel_alloc {w w' : World} (h : Below w.heap.size w w') (o : Obj) : Below w.heap.size w (w'.alloc o) := h.alloc h.size o
theorem three_new (w : World) (A B C : Array Value) (t : TypeId) :
    Below w.heap.size w (((w.alloc (.cells A t)).alloc (.cells B t)).alloc (.cells C t)) ∧ Blk (((w.alloc (.cells A t)).alloc (.cells B t)).alloc (.cells C t)) w.heap.size t A ∧ Blk (((w.alloc (.cells A t)).alloc (.cells B t)).alloc (.cells C t)) (w.heap.size + 1) t B ∧ Blk (((w.alloc (.cells A t)).alloc (.cells B t)).alloc (.cells C t)) (w.heap.size + 1 + 1) t C :=
  ⟨(((Below.refl _ _).alloc (Nat.le_refl _) _).alloc (by simp) _).alloc (by simp; omega) _, ((Blk.new w t A).alloc _).alloc _, (blk_at t B (by simp)).alloc _, blk_at t C (by simp)⟩
/-- An outcome of two threads of two registers and two locations, its rows in blocks of their own. -/
def OutB (w : World) (ra ma : Option Addr) (rv : List (List Int)) (mv : List Int) : Prop := ∃ (a b c d e f : Int) (g1 g2 g3 g4 : Nat), rv = [[a, b], [c, d]] ∧ mv = [e, f] ∧ (0 ≤ a ∧ a ≤ 1000 ∧ 0 ≤ b ∧ b ≤ 1000 ∧ 0 ≤ c ∧ c ≤ 1000 ∧ 0 ≤ d ∧ d ≤ 1000 ∧ 0 ≤ e ∧ e ≤ 1000 ∧ 0 ≤ f ∧ f ≤ 1000) ∧ ra = some ⟨g3, 0, none⟩ ∧ ma = some ⟨g4, 0, none⟩ ∧ Blk w g1 3 #[.int .i64 a, .int .i64 b] ∧ Blk w g2 3 #[.int .i64 c, .int .i64 d] ∧ Blk w g3 44 #[.slice (some ⟨g1, 0, none⟩) 2 2, .slice (some ⟨g2, 0, none⟩) 2 2] ∧ Blk w g4 3 #[.int .i64 e, .int .i64 f]
theorem OutB.low {w w' : World} {ra ma : Option Addr} {rv : List (List Int)} {mv : List Int} (h : OutB w ra ma rv mv) (hb : Below w.heap.size w w') : OutB w' ra ma rv mv := by
  obtain ⟨a, b, c, d, e, f, g1, g2, g3, g4, h1, h2, h3, h4, h5, k1, k2, k3, k4⟩ := h
  exact ⟨a, b, c, d, e, f, g1, g2, g3, g4, h1, h2, h3, h4, h5, k1.live' hb, k2.live' hb, k3.live' hb, k4.live' hb⟩
theorem OutB.set {w : World} {ra ma : Option Addr} {rv : List (List Int)} {mv : List Int} (h : OutB w ra ma rv mv) {b : Nat} {cs : Array Value} (hb : Blk w b 46 cs) (o : Nat) (u : Value) : OutB (w.setCell ⟨b, o, none⟩ u) ra ma rv mv := by
  obtain ⟨a, c', c, d, e, f, g1, g2, g3, g4, h1, h2, h3, h4, h5, k1, k2, k3, k4⟩ := h
  exact ⟨a, c', c, d, e, f, g1, g2, g3, g4, h1, h2, h3, h4, h5, k1.far (p := ⟨b, o, none⟩) (k1.ne hb (by decide)) _, k2.far (p := ⟨b, o, none⟩) (k2.ne hb (by decide)) _, k3.far (p := ⟨b, o, none⟩) (k3.ne hb (by decide)) _, k4.far (p := ⟨b, o, none⟩) (k4.ne hb (by decide)) _⟩
theorem OutB.out {w : World} {ra ma : Option Addr} {rv : List (List Int)} {mv : List Int} (h : OutB w ra ma rv mv) : OutIn w ra ma rv mv 2 := by
  obtain ⟨a, b, c, d, e, f, g1, g2, g3, g4, rfl, rfl, hbd, rfl, rfl, k1, k2, k3, k4⟩ := h
  refine ⟨vss_two k3 (ivs_two k1) (ivs_two k2), ivs_two k4, ⟨by simp [maxLen], fun i => ?_⟩, by simp [maxLen], w64_two (by omega) (by omega)⟩
  rcases i with _ | _ | i
  · exact ⟨by simp [maxLen], w64_two (by omega) (by omega)⟩
  · exact ⟨by simp [maxLen], w64_two (by omega) (by omega)⟩
  · refine ⟨by simp, fun k => ?_⟩
    exact w64_in (by simp) (by simp)
def MadeB (r0 r1 r2 r3 r4 r5 : Nat) (w : World) (e : Ending) (w' : World) : Prop := ∃ ra ma, e = .returned (.agg #[.slice ra 2 2, .slice ma 2 2]) ∧ OutB w' ra ma (mR r0 r1 r2 r3) (mM r4 r5) ∧ Below w.heap.size w w'
set_option maxHeartbeats 1600000 in
theorem made11b_any (r0 r1 r2 r3 r4 r5 : Nat) (w : World) (h0 : r0 < 256) (h1 : r1 < 256) (h2 : r2 < 256) (h3 : r3 < 256) (h4 : r4 < 256) (h5 : r5 < 256) : Calls Tryd.prog 30 #[.agg #[.int .u8 (r0 : Nat), .int .u8 (r1 : Nat), .int .u8 (r2 : Nat), .int .u8 (r3 : Nat), .int .u8 (r4 : Nat), .int .u8 (r5 : Nat)]] w (MadeB r0 r1 r2 r3 r4 r5 w) := by
  go_enter Tryd.func30, Tryd.ntmps30
  go_wp2_with fail
  refine bodyPost_ret (results_cell_row rfl _ _ (w.heap.size + 1) 46 #[.slice (some ⟨w.heap.size + 1 + 1 + 1 + 1, 0, none⟩) 2 2, .slice (some ⟨w.heap.size + 1 + 1 + 1 + 1 + 1, 0, none⟩) 2 2] (0, 0) _ rfl (((((blk_at _ _ (by simp)).alloc _).alloc _).alloc _).alloc _) Tryd.underlying46 rfl (by kernel_rfl)) rfl ?_
  exact ⟨_, _, rfl, ⟨_, _, _, _, _, _, w.heap.size + 1 + 1, w.heap.size + 1 + 1 + 1, w.heap.size + 1 + 1 + 1 + 1, w.heap.size + 1 + 1 + 1 + 1 + 1, rfl, rfl, by omega, rfl, rfl, (((blk_at _ _ (by simp)).alloc _).alloc _).alloc _, ((blk_at _ _ (by simp)).alloc _).alloc _, (blk_at _ _ (by simp)).alloc _, blk_at _ _ (by simp)⟩, ((((((Below.refl _ _).alloc (Nat.le_refl _) _).alloc (by simp) _).alloc (by simp; omega) _).alloc (by simp; omega) _).alloc (by simp; omega) _).alloc (by simp; omega) _⟩
theorem put2B {w : World} {R : Nat} {t : TypeId} {a b a' b' : Value} (h : Blk w R t #[a, b]) : Blk ((w.setCell ⟨R, 0, none⟩ a').setCell ⟨R, 1, none⟩ b') R t #[a', b'] := (h.set 0 a').set 1 b'
theorem far2B {w : World} {R g : Nat} {t : TypeId} {cs : Array Value} {a' b' : Value} (h : Blk w g t cs) (hne : g ≠ R) : Blk ((w.setCell ⟨R, 0, none⟩ a').setCell ⟨R, 1, none⟩ b') g t cs := (h.far (p := ⟨R, 0, none⟩) hne a').far (p := ⟨R, 1, none⟩) hne b'
theorem OutB.set2 {w : World} {ra ma : Option Addr} {rv : List (List Int)} {mv : List Int} (h : OutB w ra ma rv mv) {b : Nat} {x y a' b' : Value} (hb : Blk w b 46 #[x, y]) : OutB ((w.setCell ⟨b, 0, none⟩ a').setCell ⟨b, 1, none⟩ b') ra ma rv mv := (h.set hb 0 a').set (hb.set 0 a') 1 b'
theorem ptr_ne {b c : Nat} (h : Value.pointer (some ⟨b, 0, none⟩) ≠ .pointer (some ⟨c, 0, none⟩)) : b ≠ c := fun e => h (by rw [e])
/-- An operation of a region that draws its order, taken first, its slot written out. -/
theorem take_atO {P : Program} {md : Region.Mode} {ops : Array Oper} {Q : Exit → Act → World → Prop} {S : World → Prop} {i : Nat} {oi : Oper} {v : Value} {fuel : Nat} {listed : Array Bool} {a : Act} {w : World} (d : Tmp) (hi : ops[i]? = some oi) (hd : oi.dst = some d)
    (hs : Region.noSelect ops = true) (hf : Region.free md ops listed i = true) (hr : (Region.ready md ops listed).contains i = true)
    (hQ : ∀ c a w, Q (.panic c) (a.put (some d) v) w → Q (.panic c) a w) (hy : YieldsIf P ops S oi v a) (hS : S w)
    (h : wpAnyH P md ops Q S fuel (listed.setIfInBounds i true) (a.put (some d) v) w) : wpAnyH P md ops Q S (fuel + 1) listed a w :=
  wpAnyH_take hi hs hf hr (by rw [hd]; exact hQ) hy hS (by rw [hd]; exact h)
theorem wpAnyH_memo {P : Program} {md : Region.Mode} {ops : Array Oper} {Q : Exit → Act → World → Prop} {S : World → Prop} (I : Nat → Array Bool → Act → World → Prop)
    (h : ∀ f listed a w, (∀ f' listed' a' w', f' < f → I f' listed' a' w' → wpAnyH P md ops Q S f' listed' a' w') → I f listed a w → wpAnyH P md ops Q S f listed a w) :
    ∀ f listed a w, I f listed a w → wpAnyH P md ops Q S f listed a w := by
  intro f
  induction f using Nat.strongRecOn with
  | ind f ih => exact fun listed a w hi => h f listed a w (fun f' l' a' w' hf hi' => ih f' hf l' a' w' hi') hi
/-- Which operations have come up. -/
def stL (c : Nat) (x y z : Bool) : Array Bool := #[true, decide (1 ≤ c), true, decide (2 ≤ c), true, decide (3 ≤ c), x, y, z, false, false, false]
def cntL (c : Nat) (x y z : Bool) : Nat := (3 - c) + (cond x 0 1) + (cond y 0 1) + (cond z 0 1) + 3
abbrev zO : Array Value := #[.slice none 0 0, .slice none 0 0]
/-- A box that is made already. -/
def BoxI (B : Nat) (x : Bool) (w : World) (p : Value) : Prop := x = true → ∃ b, p = .pointer (some ⟨b, 0, none⟩) ∧ Blk w b 46 zO ∧ B ≤ b
/-- An outcome that is made already. -/
def OutI (k c : Nat) (rv : List (List Int)) (mv : List Int) (w : World) (v : Value) : Prop := k ≤ c → ∃ ra ma, v = .agg #[.slice ra 2 2, .slice ma 2 2] ∧ OutB w ra ma rv mv
theorem BoxI.no {B : Nat} {w : World} {p : Value} : BoxI B false w p := fun h => by cases h
theorem BoxI.low {B : Nat} {x : Bool} {w w' : World} {p : Value} (h : BoxI B x w p) (hb : Below w.heap.size w w') : BoxI B x w' p := fun hx => by
  obtain ⟨b, hp, hk, hB⟩ := h hx
  exact ⟨b, hp, hk.live' hb, hB⟩
theorem BoxI.new {B : Nat} {w : World} (hB : B ≤ w.heap.size) : BoxI B true (w.alloc (.cells zO 46)) (.pointer (some ⟨w.heap.size, 0, none⟩)) := fun _ => ⟨_, rfl, Blk.new w _ _, hB⟩
theorem BoxI.ne {B : Nat} {x : Bool} {w : World} {p : Value} (h : BoxI B x w p) : x = true → true = true → p ≠ .pointer (some ⟨w.heap.size, 0, none⟩) := fun hx _ e => by
  obtain ⟨b, hp, hk, _⟩ := h hx
  have hl := hk.lt
  rw [hp] at e
  cases e
  exact absurd hl (Nat.lt_irrefl _)
theorem BoxI.ne' {B : Nat} {x : Bool} {w : World} {p : Value} (h : BoxI B x w p) : true = true → x = true → .pointer (some ⟨w.heap.size, 0, none⟩) ≠ p := fun h1 hx e => h.ne hx h1 e.symm
theorem OutI.low {k c : Nat} {rv : List (List Int)} {mv : List Int} {w w' : World} {v : Value} (h : OutI k c rv mv w v) (hb : Below w.heap.size w w') : OutI k c rv mv w' v := fun hk => by
  obtain ⟨ra, ma, hv, ho⟩ := h hk
  exact ⟨ra, ma, hv, ho.low hb⟩
theorem OutI.no {k c : Nat} {rv : List (List Int)} {mv : List Int} {w : World} {v : Value} (h : c < k) : OutI k c rv mv w v := fun hk => by omega
theorem OutI.up {k c : Nat} {rv : List (List Int)} {mv : List Int} {w : World} {v : Value} (h : OutI k c rv mv w v) (hk : k ≤ c) {c' : Nat} : OutI k c' rv mv w v := fun _ => h hk
/-- Where the region stands. -/
def ThI (FR : Value → Value → Value → Value → Value → Value → Act) (w2 : World) (R1 R2 R3 : List (List Int)) (M1 M2 M3 : List Int) (f : Nat) (listed : Array Bool) (a : Act) (wx : World) : Prop :=
  ∃ (c : Nat) (x y z : Bool) (p9 p10 p11 v20 v22 v24 : Value), c ≤ 3 ∧ f = cntL c x y z ∧ listed = stL c x y z ∧ a = FR p9 p10 p11 v20 v22 v24 ∧ Below w2.heap.size w2 wx ∧ BoxI w2.heap.size x wx p9 ∧ BoxI w2.heap.size y wx p10 ∧ BoxI w2.heap.size z wx p11 ∧
    (x = true → y = true → p9 ≠ p10) ∧ (x = true → z = true → p9 ≠ p11) ∧ (y = true → z = true → p10 ≠ p11) ∧ OutI 1 c R1 M1 wx v20 ∧ OutI 2 c R2 M2 wx v22 ∧ OutI 3 c R3 M3 wx v24
theorem one_belO (w : World) : Below w.heap.size w (w.alloc (.cells zO 46)) := (Below.refl _ _).alloc (Nat.le_refl _) _
/-- An outcome of two rows and two places is small. -/
structure TwoO (R : List (List Int)) (M : List Int) : Prop where
  r : R.length = 2
  m : M.length = 2
  s : SmO R M
  k : Sml nL nG R M
theorem two_m (r0 r1 r2 r3 r4 r5 : Nat) : TwoO (mR r0 r1 r2 r3) (mM r4 r5) := ⟨rfl, rfl, ⟨(sml_m r0 r1 r2 r3 r4 r5).r, (sml_m r0 r1 r2 r3 r4 r5).rs, (sml_m r0 r1 r2 r3 r4 r5).m⟩, sml_m r0 r1 r2 r3 r4 r5⟩
theorem less_two {W : World} {ra ma ra' ma' : Option Addr} {R R' : List (List Int)} {M M' : List Int} (b : Bool) (h : OutIn W ra ma R M 2) (h' : OutIn W ra' ma' R' M' 2) (k : TwoO R M) (k' : TwoO R' M') (hb : decide (ordO R M R' M' < 0) = b) (w' : World) (hw : Below W.heap.size W w') :
    Calls Tryd.prog 26 #[.agg #[.slice ra 2 2, .slice ma 2 2], .agg #[.slice ra' 2 2, .slice ma' 2 2]] w' (fun e w'' => e = .returned (.bool b) ∧ Below W.heap.size W w'') := by
  have hh := postLess_any (rc := 2) (rc' := 2) b (h.low hw) (h'.low hw) k.s k'.s hb
  rw [k.r, k.m, k'.r, k'.m] at hh
  exact hh.mono fun e w'' hx => ⟨hx.1, hw.trans (hx.2.mono hw.size)⟩
theorem same_two {W : World} {ra ma ra' ma' : Option Addr} {R R' : List (List Int)} {M M' : List Int} (b : Bool) (h : OutIn W ra ma R M 2) (h' : OutIn W ra' ma' R' M' 2) (k : TwoO R M) (k' : TwoO R' M') (hb : (ordO R M R' M' == 0) = b) (w' : World) (hw : Below W.heap.size W w') :
    Calls Tryd.prog 24 #[.agg #[.slice ra 2 2, .slice ma 2 2], .agg #[.slice ra' 2 2, .slice ma' 2 2]] w' (fun e w'' => e = .returned (.bool b) ∧ Below W.heap.size W w'') := by
  have hh := postSame_any (rc := 2) (rc' := 2) b (h.low hw) (h'.low hw) k.s k'.s hb
  rw [k.r, k.m, k'.r, k'.m] at hh
  exact hh.mono fun e w'' hx => ⟨hx.1, hw.trans (hx.2.mono hw.size)⟩
theorem shn_m : ShN nL nG := by
  refine ⟨fun i => ?_, fun i k => ?_⟩
  · rcases i with _ | _ | i <;> simp [nL]
  · rcases i with _ | _ | i
    · rcases k with _ | _ | k <;> simp [nG]
    · rcases k with _ | _ | k <;> simp [nG]
    · simp [nG]
theorem line_two {B : Nat} {W : World} {la ga ra ma : Option Addr} {R : List (List Int)} {M : List Int} (h : OutIn W ra ma R M 2) (hn : NamIn W la ga nL nG 2) (k : TwoO R M) (hT : B ≤ W.heap.size ∧ Tp B W) (w' : World) (hw : Below W.heap.size W w') :
    Calls Tryd.prog 27 #[.slice la 2 2, .slice ga 2 2, .agg #[.slice ra 2 2, .slice ma 2 2]] w' (fun e w'' => e = .returned (.string (bs (Lib.join (lnp nL nG R M) [32]))) ∧ Below W.heap.size W w'') := by
  have hh := postLine_any (B := B) (gc := 2) (rc := 2) (⟨hn.low hw, h.low hw, k.k⟩ : AkIn w' la ga ra ma 2 2 nL nG R M) shn_m (by have := hw.size; omega) (hT.2.low hT.1 hw)
  rw [k.r, k.m] at hh
  exact hh.mono fun e w'' hx => ⟨hx.1, hw.trans (hx.2.mono hw.size)⟩
theorem ord_three (R1 R2 : List (List Int)) (M1 M2 : List Int) (hl : Lib.join (lnp nL nG R1 M1) [32] = Lib.join (lnp nL nG R2 M2) [32] → R1 = R2 ∧ M1 = M2) : ∃ ab ba sm : Bool, decide (ordO R1 M1 R2 M2 < 0) = ab ∧ decide (ordO R2 M2 R1 M1 < 0) = ba ∧ (ordO R1 M1 R2 M2 == 0) = sm ∧ (ordO R2 M2 R1 M1 == 0) = sm ∧ ((bs (Lib.join (lnp nL nG R1 M1) [32])).toList == (bs (Lib.join (lnp nL nG R2 M2) [32])).toList) = sm ∧ ((ab = true ∧ ba = false ∧ sm = false ∧ ordO R1 M1 R2 M2 < 0) ∨ (ab = false ∧ ba = true ∧ sm = false) ∨ (ab = false ∧ ba = false ∧ sm = true)) := by
  have ha := ordO_anti R1 M1 R2 M2
  rcases Int.lt_trichotomy (ordO R1 M1 R2 M2) 0 with h | h | h
  · refine ⟨true, false, false, by simpa using h, by rw [ha]; simp; omega, by simp; omega, by rw [ha]; simp; omega, ?_, .inl ⟨rfl, rfl, rfl, h⟩⟩
    rw [toList_by, by_bs, toList_by, by_bs, beq_eq_false_iff_ne]
    intro e
    obtain ⟨rfl, rfl⟩ := hl e
    rw [ordO_self] at h
    omega
  · obtain ⟨rfl, rfl⟩ := ordO_zero h
    exact ⟨false, false, true, by rw [h]; rfl, by rw [h]; rfl, by rw [h]; rfl, by rw [h]; rfl, by simp, .inr (.inr ⟨rfl, rfl, rfl⟩)⟩
  · refine ⟨false, true, false, by simp; omega, by rw [ha]; simp; omega, by simp; omega, by rw [ha]; simp; omega, ?_, .inr (.inl ⟨rfl, rfl, rfl⟩)⟩
    rw [toList_by, by_bs, toList_by, by_bs, beq_eq_false_iff_ne]
    intro e
    obtain ⟨rfl, rfl⟩ := hl e
    rw [ordO_self] at h
    omega
theorem boxes_keep {W : World} {b1 b2 b3 : Nat} {t : TypeId} {x1 y1 x2 y2 x3 y3 : Value} (h1 : Blk W b1 t #[x1, y1]) (h2 : Blk W b2 t #[x2, y2]) (h3 : Blk W b3 t #[x3, y3]) : ∀ w', Below W.heap.size W w' → (w'.cell? ⟨b1, 0, none⟩ = some x1 ∧ w'.cell? ⟨b1, 1, none⟩ = some y1 ∧ w'.cell? ⟨b2, 0, none⟩ = some x2 ∧ w'.cell? ⟨b2, 1, none⟩ = some y2 ∧ w'.cell? ⟨b3, 0, none⟩ = some x3 ∧ w'.cell? ⟨b3, 1, none⟩ = some y3) := fun w' hb => ⟨(h1.live' hb).cell 0, (h1.live' hb).cell 1, (h2.live' hb).cell 0, (h2.live' hb).cell 1, (h3.live' hb).cell 0, (h3.live' hb).cell 1⟩
set_option maxHeartbeats 51200000 in
theorem postorder_walk {B : Nat} (r0 r1 r2 r3 r4 r5 s0 s1 s2 s3 s4 s5 t0 t1 t2 t3 t4 t5 : Nat) (w : World) (h : (r0 < 256 ∧ r1 < 256 ∧ r2 < 256 ∧ r3 < 256 ∧ r4 < 256 ∧ r5 < 256) ∧ (s0 < 256 ∧ s1 < 256 ∧ s2 < 256 ∧ s3 < 256 ∧ s4 < 256 ∧ s5 < 256) ∧ (t0 < 256 ∧ t1 < 256 ∧ t2 < 256 ∧ t3 < 256 ∧ t4 < 256 ∧ t5 < 256)) (hB : B ≤ w.heap.size) (ht : Tp B w) :
    Calls Tryd.prog 6 #[.agg #[.int .u8 (r0 : Nat), .int .u8 (r1 : Nat), .int .u8 (r2 : Nat), .int .u8 (r3 : Nat), .int .u8 (r4 : Nat), .int .u8 (r5 : Nat)], .agg #[.int .u8 (s0 : Nat), .int .u8 (s1 : Nat), .int .u8 (s2 : Nat), .int .u8 (s3 : Nat), .int .u8 (s4 : Nat), .int .u8 (s5 : Nat)], .agg #[.int .u8 (t0 : Nat), .int .u8 (t1 : Nat), .int .u8 (t2 : Nat), .int .u8 (t3 : Nat), .int .u8 (t4 : Nat), .int .u8 (t5 : Nat)]] w fun e w' => e = .returned (.bool true) ∧ Below w.heap.size w w' := by
  obtain ⟨hb3, hA, hBb, hC⟩ := three_new w #[.int .u8 (r0 : Nat), .int .u8 (r1 : Nat), .int .u8 (r2 : Nat), .int .u8 (r3 : Nat), .int .u8 (r4 : Nat), .int .u8 (r5 : Nat)] #[.int .u8 (s0 : Nat), .int .u8 (s1 : Nat), .int .u8 (s2 : Nat), .int .u8 (s3 : Nat), .int .u8 (s4 : Nat), .int .u8 (s5 : Nat)] #[.int .u8 (t0 : Nat), .int .u8 (t1 : Nat), .int .u8 (t2 : Nat), .int .u8 (t3 : Nat), .int .u8 (t4 : Nat), .int .u8 (t5 : Nat)] 55
  have HB0 := Lib.hid hb3
  have HA := Lib.hid hA
  have HBb := Lib.hid hBb
  have HC := Lib.hid hC
  have HT := Lib.hid (ht.low hB hb3)
  have hsz := hb3.size
  have HBG := Lib.hid (begun11_any (B := B) _ (by omega) HT.out)
  have HM1 := Lib.hid (fun w' => made11b_any r0 r1 r2 r3 r4 r5 w' h.1.1 h.1.2.1 h.1.2.2.1 h.1.2.2.2.1 h.1.2.2.2.2.1 h.1.2.2.2.2.2)
  have HM2 := Lib.hid (fun w' => made11b_any s0 s1 s2 s3 s4 s5 w' h.2.1.1 h.2.1.2.1 h.2.1.2.2.1 h.2.1.2.2.2.1 h.2.1.2.2.2.2.1 h.2.1.2.2.2.2.2)
  have HM3 := Lib.hid (fun w' => made11b_any t0 t1 t2 t3 t4 t5 w' h.2.2.1 h.2.2.2.1 h.2.2.2.2.1 h.2.2.2.2.2.1 h.2.2.2.2.2.2.1 h.2.2.2.2.2.2.2)
  clear ht h hb3 hA hBb hC
  go_enter Tryd.func6, Tryd.ntmps6
  go_wp2_with fail
  generalize ((w.alloc (.cells #[.int .u8 (r0 : Nat), .int .u8 (r1 : Nat), .int .u8 (r2 : Nat), .int .u8 (r3 : Nat), .int .u8 (r4 : Nat), .int .u8 (r5 : Nat)] 55)).alloc (.cells #[.int .u8 (s0 : Nat), .int .u8 (s1 : Nat), .int .u8 (s2 : Nat), .int .u8 (s3 : Nat), .int .u8 (s4 : Nat), .int .u8 (s5 : Nat)] 55)).alloc (.cells #[.int .u8 (t0 : Nat), .int .u8 (t1 : Nat), .int .u8 (t2 : Nat), .int .u8 (t3 : Nat), .int .u8 (t4 : Nat), .int .u8 (t5 : Nat)] 55) = W at *
  with_reducible refine HBG.out.mono ?_
  rintro e w1 ⟨rfl, hb1⟩
  have HB1 := Lib.hid (HB0.out.trans (hb1.mono HB0.out.size))
  have HA1 := Lib.hid (HA.out.live' hb1)
  have HBb1 := Lib.hid (HBb.out.live' hb1)
  have HC1 := Lib.hid (HC.out.live' hb1)
  have HT1 := Lib.hid (HT.out.low (by omega) hb1)
  clear hb1 HBG HA HBb HC HT
  go_wp2_with fail
  with_reducible refine (names_any w1).mono ?_
  rintro e w2 ⟨la, ga, rfl, hnam, hb2⟩
  have HN := Lib.hid hnam
  have HB2 := Lib.hid (HB1.out.trans (hb2.mono HB1.out.size))
  have HT2 := Lib.hid (HT1.out.low (by have := HB1.out.size; omega) hb2)
  have HA2 := Lib.hid (HA1.out.live' hb2)
  have HBb2 := Lib.hid (HBb1.out.live' hb2)
  have HC2 := Lib.hid (HC1.out.live' hb2)
  obtain ⟨p0, p1, p2, p3, p4, p5⟩ := six_cells HA2.out
  obtain ⟨q0, q1, q2, q3, q4, q5⟩ := six_cells HBb2.out
  obtain ⟨o0, o1, o2, o3, o4, o5⟩ := six_cells HC2.out
  have l1 := HA2.out.lt
  have l2 := HBb2.out.lt
  have l3 := HC2.out.lt
  clear hb2 hnam HB1 HA1 HBb1 HC1 HT1
  go_wp2_with fail
  have HKS := Lib.hid (show ∀ w', Below w2.heap.size w2 w' → (w'.cell? ⟨w.heap.size, 0, none⟩ = some (.int .u8 (r0 : Nat)) ∧ w'.cell? ⟨w.heap.size, 1, none⟩ = some (.int .u8 (r1 : Nat)) ∧ w'.cell? ⟨w.heap.size, 2, none⟩ = some (.int .u8 (r2 : Nat)) ∧ w'.cell? ⟨w.heap.size, 3, none⟩ = some (.int .u8 (r3 : Nat)) ∧ w'.cell? ⟨w.heap.size, 4, none⟩ = some (.int .u8 (r4 : Nat)) ∧ w'.cell? ⟨w.heap.size, 5, none⟩ = some (.int .u8 (r5 : Nat)) ∧ w'.cell? ⟨w.heap.size + 1, 0, none⟩ = some (.int .u8 (s0 : Nat)) ∧ w'.cell? ⟨w.heap.size + 1, 1, none⟩ = some (.int .u8 (s1 : Nat)) ∧ w'.cell? ⟨w.heap.size + 1, 2, none⟩ = some (.int .u8 (s2 : Nat)) ∧ w'.cell? ⟨w.heap.size + 1, 3, none⟩ = some (.int .u8 (s3 : Nat)) ∧ w'.cell? ⟨w.heap.size + 1, 4, none⟩ = some (.int .u8 (s4 : Nat)) ∧ w'.cell? ⟨w.heap.size + 1, 5, none⟩ = some (.int .u8 (s5 : Nat)) ∧ w'.cell? ⟨w.heap.size + 1 + 1, 0, none⟩ = some (.int .u8 (t0 : Nat)) ∧ w'.cell? ⟨w.heap.size + 1 + 1, 1, none⟩ = some (.int .u8 (t1 : Nat)) ∧ w'.cell? ⟨w.heap.size + 1 + 1, 2, none⟩ = some (.int .u8 (t2 : Nat)) ∧ w'.cell? ⟨w.heap.size + 1 + 1, 3, none⟩ = some (.int .u8 (t3 : Nat)) ∧ w'.cell? ⟨w.heap.size + 1 + 1, 4, none⟩ = some (.int .u8 (t4 : Nat)) ∧ w'.cell? ⟨w.heap.size + 1 + 1, 5, none⟩ = some (.int .u8 (t5 : Nat))) from fun w' hb => by
    have a := six_cells (HA2.out.live' hb)
    have b := six_cells (HBb2.out.live' hb)
    have c := six_cells (HC2.out.live' hb)
    exact ⟨a.1, a.2.1, a.2.2.1, a.2.2.2.1, a.2.2.2.2.1, a.2.2.2.2.2, b.1, b.2.1, b.2.2.1, b.2.2.2.1, b.2.2.2.2.1, b.2.2.2.2.2, c.1, c.2.1, c.2.2.1, c.2.2.2.1, c.2.2.2.2.1, c.2.2.2.2.2⟩)
  clear p0 p1 p2 p3 p4 p5 q0 q1 q2 q3 q4 q5 o0 o1 o2 o3 o4 o5
  refine wp_region_held_drew (S := fun w' => (w'.cell? ⟨w.heap.size, 0, none⟩ = some (.int .u8 (r0 : Nat)) ∧ w'.cell? ⟨w.heap.size, 1, none⟩ = some (.int .u8 (r1 : Nat)) ∧ w'.cell? ⟨w.heap.size, 2, none⟩ = some (.int .u8 (r2 : Nat)) ∧ w'.cell? ⟨w.heap.size, 3, none⟩ = some (.int .u8 (r3 : Nat)) ∧ w'.cell? ⟨w.heap.size, 4, none⟩ = some (.int .u8 (r4 : Nat)) ∧ w'.cell? ⟨w.heap.size, 5, none⟩ = some (.int .u8 (r5 : Nat)) ∧ w'.cell? ⟨w.heap.size + 1, 0, none⟩ = some (.int .u8 (s0 : Nat)) ∧ w'.cell? ⟨w.heap.size + 1, 1, none⟩ = some (.int .u8 (s1 : Nat)) ∧ w'.cell? ⟨w.heap.size + 1, 2, none⟩ = some (.int .u8 (s2 : Nat)) ∧ w'.cell? ⟨w.heap.size + 1, 3, none⟩ = some (.int .u8 (s3 : Nat)) ∧ w'.cell? ⟨w.heap.size + 1, 4, none⟩ = some (.int .u8 (s4 : Nat)) ∧ w'.cell? ⟨w.heap.size + 1, 5, none⟩ = some (.int .u8 (s5 : Nat)) ∧ w'.cell? ⟨w.heap.size + 1 + 1, 0, none⟩ = some (.int .u8 (t0 : Nat)) ∧ w'.cell? ⟨w.heap.size + 1 + 1, 1, none⟩ = some (.int .u8 (t1 : Nat)) ∧ w'.cell? ⟨w.heap.size + 1 + 1, 2, none⟩ = some (.int .u8 (t2 : Nat)) ∧ w'.cell? ⟨w.heap.size + 1 + 1, 3, none⟩ = some (.int .u8 (t3 : Nat)) ∧ w'.cell? ⟨w.heap.size + 1 + 1, 4, none⟩ = some (.int .u8 (t4 : Nat)) ∧ w'.cell? ⟨w.heap.size + 1 + 1, 5, none⟩ = some (.int .u8 (t5 : Nat)))) (by kernel_rfl) (HKS.out _ (Below.refl _ _).drew) (fun hHeld => ?_)
  refine take_atO (i := 0) (v := .agg #[.int .u8 (r0 : Nat), .int .u8 (r1 : Nat), .int .u8 (r2 : Nat), .int .u8 (r3 : Nat), .int .u8 (r4 : Nat), .int .u8 (r5 : Nat)]) 19 rfl rfl (by kernel_rfl) (by kernel_rfl) (by kernel_rfl) (fun _ _ _ h => h) (Or.inl ⟨by kernel_rfl, fun w' hSw => by
    obtain ⟨h0, h1, h2, h3, h4, h5, g0, g1, g2, g3, g4, g5, k0, k1, k2, k3, k4, k5⟩ := hSw
    go_simp⟩) hHeld ?_
  try simp only [Act.put, List.setIfInBounds_toArray, List.set_cons_zero, List.set_cons_succ]
  refine take_atO (i := 2) (v := .agg #[.int .u8 (s0 : Nat), .int .u8 (s1 : Nat), .int .u8 (s2 : Nat), .int .u8 (s3 : Nat), .int .u8 (s4 : Nat), .int .u8 (s5 : Nat)]) 21 rfl rfl (by kernel_rfl) (by kernel_rfl) (by kernel_rfl) (fun _ _ _ h => h) (Or.inl ⟨by kernel_rfl, fun w' hSw => by
    obtain ⟨h0, h1, h2, h3, h4, h5, g0, g1, g2, g3, g4, g5, k0, k1, k2, k3, k4, k5⟩ := hSw
    go_simp⟩) hHeld ?_
  try simp only [Act.put, List.setIfInBounds_toArray, List.set_cons_zero, List.set_cons_succ]
  refine take_atO (i := 4) (v := .agg #[.int .u8 (t0 : Nat), .int .u8 (t1 : Nat), .int .u8 (t2 : Nat), .int .u8 (t3 : Nat), .int .u8 (t4 : Nat), .int .u8 (t5 : Nat)]) 23 rfl rfl (by kernel_rfl) (by kernel_rfl) (by kernel_rfl) (fun _ _ _ h => h) (Or.inl ⟨by kernel_rfl, fun w' hSw => by
    obtain ⟨h0, h1, h2, h3, h4, h5, g0, g1, g2, g3, g4, g5, k0, k1, k2, k3, k4, k5⟩ := hSw
    go_simp⟩) hHeld ?_
  try simp only [Act.put, List.setIfInBounds_toArray, List.set_cons_zero, List.set_cons_succ]
  refine wpAnyH_memo (ThI (fun (p9 p10 p11 v20 v22 v24 : Value) => ({ tmps := #[.agg #[.int .u8 (r0 : Nat), .int .u8 (r1 : Nat), .int .u8 (r2 : Nat), .int .u8 (r3 : Nat), .int .u8 (r4 : Nat), .int .u8 (r5 : Nat)], .agg #[.int .u8 (s0 : Nat), .int .u8 (s1 : Nat), .int .u8 (s2 : Nat), .int .u8 (s3 : Nat), .int .u8 (s4 : Nat), .int .u8 (s5 : Nat)], .agg #[.int .u8 (t0 : Nat), .int .u8 (t1 : Nat), .int .u8 (t2 : Nat), .int .u8 (t3 : Nat), .int .u8 (t4 : Nat), .int .u8 (t5 : Nat)], .pointer (some ⟨w.heap.size, 0, none⟩), .pointer (some ⟨w.heap.size + 1, 0, none⟩), .pointer (some ⟨w.heap.size + 1 + 1, 0, none⟩), .bool false, .slice la 2 2, .slice ga 2 2, p9, p10, p11, undef, .bool true, .bool false, .tuple #[.slice la 2 2, .slice ga 2 2], .tuple #[.slice la 2 2, .slice ga 2 2], .slice la 2 2, .slice ga 2 2, .agg #[.int .u8 (r0 : Nat), .int .u8 (r1 : Nat), .int .u8 (r2 : Nat), .int .u8 (r3 : Nat), .int .u8 (r4 : Nat), .int .u8 (r5 : Nat)], v20, .agg #[.int .u8 (s0 : Nat), .int .u8 (s1 : Nat), .int .u8 (s2 : Nat), .int .u8 (s3 : Nat), .int .u8 (s4 : Nat), .int .u8 (s5 : Nat)], v22, .agg #[.int .u8 (t0 : Nat), .int .u8 (t1 : Nat), .int .u8 (t2 : Nat), .int .u8 (t3 : Nat), .int .u8 (t4 : Nat), .int .u8 (t5 : Nat)], v24, undef, undef, undef, undef, undef, undef, undef, undef, undef, undef, undef, undef, undef, undef, undef, undef, undef, undef, undef, undef, undef, undef, undef, undef, undef, undef, undef, undef, undef, undef, undef, undef, undef, undef, undef, undef, undef, undef, undef, undef, undef, undef, undef, undef, undef, undef, undef, undef, undef, undef, undef, undef, undef, undef, undef, undef, undef, undef, undef, undef, undef, undef, undef, undef], defers := [] } : Act)) w2 (mR r0 r1 r2 r3) (mR s0 s1 s2 s3) (mR t0 t1 t2 t3) (mM r4 r5) (mM s4 s5) (mM t4 t5)) ?_ _ _ _ _ ⟨0, false, false, false, undef, undef, undef, undef, undef, undef, by decide, rfl, by kernel_rfl, rfl, (Below.refl _ _).drew, BoxI.no, BoxI.no, BoxI.no, (fun h => by cases h), (fun h => by cases h), (fun h => by cases h), OutI.no (by decide), OutI.no (by decide), OutI.no (by decide)⟩
  clear hHeld
  intro f listed a wx IH hI
  obtain ⟨c, x, y, z, p9, p10, p11, v20, v22, v24, hc, hf, hL, ha, hb, B9, B10, B11, D1, D2, D3, O1, O2, O3⟩ := hI
  have HIH := Lib.hid IH
  have HBX := Lib.hid hb
  have X9 := Lib.hid B9
  have X10 := Lib.hid B10
  have X11 := Lib.hid B11
  have E1 := Lib.hid D1
  have E2 := Lib.hid D2
  have E3 := Lib.hid D3
  have Y1 := Lib.hid O1
  have Y2 := Lib.hid O2
  have Y3 := Lib.hid O3
  clear IH hb B9 B10 B11 D1 D2 D3 O1 O2 O3
  subst ha
  have hcc : c = 0 ∨ c = 1 ∨ c = 2 ∨ c = 3 := by omega
  clear hc
  rcases hcc with rfl | rfl | rfl | rfl
  · cases x
    · cases y
      · cases z
        · obtain rfl : f = 9 := hf
          subst hL
          refine wpAnyH_ready (rs := [1, 6, 7, 8]) (by kernel_rfl) (by simp) ?_
          refine AllReadyH.cons (o := _) rfl (fun K hK => ?_) ?_
          · go_simp
            refine (HM1.out wx).mono ?_
            rintro e w7 ⟨ra, ma, rfl, ho, hb7⟩
            exact hK.out _ _ (HKS.out w7 (HBX.out.trans (hb7.mono HBX.out.size))) (fun _ => HIH.out _ _ _ _ (by decide) ⟨1, false, false, false, p9, p10, p11, _, v22, v24, by decide, rfl, by kernel_rfl, rfl, HBX.out.trans (hb7.mono HBX.out.size), X9.out.low hb7, X10.out.low hb7, X11.out.low hb7, E1.out, E2.out, E3.out, (fun _ => ⟨ra, ma, rfl, ho⟩), OutI.no (by decide), OutI.no (by decide)⟩)
          refine AllReadyH.cons (o := _) rfl (fun K hK => ?_) ?_
          · go_simp
            exact hK.out _ _ (HKS.out _ (bel_alloc HBX.out _)) (fun _ => HIH.out _ _ _ _ (by decide) ⟨0, true, false, false, _, p10, p11, v20, v22, v24, by decide, rfl, by kernel_rfl, rfl, bel_alloc HBX.out _, BoxI.new HBX.out.size, X10.out.low (one_belO wx), X11.out.low (one_belO wx), X10.out.ne', X11.out.ne', E3.out, Y1.out.low (one_belO wx), Y2.out.low (one_belO wx), Y3.out.low (one_belO wx)⟩)
          refine AllReadyH.cons (o := _) rfl (fun K hK => ?_) ?_
          · go_simp
            exact hK.out _ _ (HKS.out _ (bel_alloc HBX.out _)) (fun _ => HIH.out _ _ _ _ (by decide) ⟨0, false, true, false, p9, _, p11, v20, v22, v24, by decide, rfl, by kernel_rfl, rfl, bel_alloc HBX.out _, X9.out.low (one_belO wx), BoxI.new HBX.out.size, X11.out.low (one_belO wx), X9.out.ne, E2.out, X11.out.ne', Y1.out.low (one_belO wx), Y2.out.low (one_belO wx), Y3.out.low (one_belO wx)⟩)
          refine AllReadyH.cons (o := _) rfl (fun K hK => ?_) AllReadyH.nil
          go_simp
          exact hK.out _ _ (HKS.out _ (bel_alloc HBX.out _)) (fun _ => HIH.out _ _ _ _ (by decide) ⟨0, false, false, true, p9, p10, _, v20, v22, v24, by decide, rfl, by kernel_rfl, rfl, bel_alloc HBX.out _, X9.out.low (one_belO wx), X10.out.low (one_belO wx), BoxI.new HBX.out.size, E1.out, X9.out.ne, X10.out.ne, Y1.out.low (one_belO wx), Y2.out.low (one_belO wx), Y3.out.low (one_belO wx)⟩)
        · obtain rfl : f = 8 := hf
          subst hL
          refine wpAnyH_ready (rs := [1, 6, 7]) (by kernel_rfl) (by simp) ?_
          refine AllReadyH.cons (o := _) rfl (fun K hK => ?_) ?_
          · go_simp
            refine (HM1.out wx).mono ?_
            rintro e w7 ⟨ra, ma, rfl, ho, hb7⟩
            exact hK.out _ _ (HKS.out w7 (HBX.out.trans (hb7.mono HBX.out.size))) (fun _ => HIH.out _ _ _ _ (by decide) ⟨1, false, false, true, p9, p10, p11, _, v22, v24, by decide, rfl, by kernel_rfl, rfl, HBX.out.trans (hb7.mono HBX.out.size), X9.out.low hb7, X10.out.low hb7, X11.out.low hb7, E1.out, E2.out, E3.out, (fun _ => ⟨ra, ma, rfl, ho⟩), OutI.no (by decide), OutI.no (by decide)⟩)
          refine AllReadyH.cons (o := _) rfl (fun K hK => ?_) ?_
          · go_simp
            exact hK.out _ _ (HKS.out _ (bel_alloc HBX.out _)) (fun _ => HIH.out _ _ _ _ (by decide) ⟨0, true, false, true, _, p10, p11, v20, v22, v24, by decide, rfl, by kernel_rfl, rfl, bel_alloc HBX.out _, BoxI.new HBX.out.size, X10.out.low (one_belO wx), X11.out.low (one_belO wx), X10.out.ne', X11.out.ne', E3.out, Y1.out.low (one_belO wx), Y2.out.low (one_belO wx), Y3.out.low (one_belO wx)⟩)
          refine AllReadyH.cons (o := _) rfl (fun K hK => ?_) AllReadyH.nil
          go_simp
          exact hK.out _ _ (HKS.out _ (bel_alloc HBX.out _)) (fun _ => HIH.out _ _ _ _ (by decide) ⟨0, false, true, true, p9, _, p11, v20, v22, v24, by decide, rfl, by kernel_rfl, rfl, bel_alloc HBX.out _, X9.out.low (one_belO wx), BoxI.new HBX.out.size, X11.out.low (one_belO wx), X9.out.ne, E2.out, X11.out.ne', Y1.out.low (one_belO wx), Y2.out.low (one_belO wx), Y3.out.low (one_belO wx)⟩)
      · cases z
        · obtain rfl : f = 8 := hf
          subst hL
          refine wpAnyH_ready (rs := [1, 6, 8]) (by kernel_rfl) (by simp) ?_
          refine AllReadyH.cons (o := _) rfl (fun K hK => ?_) ?_
          · go_simp
            refine (HM1.out wx).mono ?_
            rintro e w7 ⟨ra, ma, rfl, ho, hb7⟩
            exact hK.out _ _ (HKS.out w7 (HBX.out.trans (hb7.mono HBX.out.size))) (fun _ => HIH.out _ _ _ _ (by decide) ⟨1, false, true, false, p9, p10, p11, _, v22, v24, by decide, rfl, by kernel_rfl, rfl, HBX.out.trans (hb7.mono HBX.out.size), X9.out.low hb7, X10.out.low hb7, X11.out.low hb7, E1.out, E2.out, E3.out, (fun _ => ⟨ra, ma, rfl, ho⟩), OutI.no (by decide), OutI.no (by decide)⟩)
          refine AllReadyH.cons (o := _) rfl (fun K hK => ?_) ?_
          · go_simp
            exact hK.out _ _ (HKS.out _ (bel_alloc HBX.out _)) (fun _ => HIH.out _ _ _ _ (by decide) ⟨0, true, true, false, _, p10, p11, v20, v22, v24, by decide, rfl, by kernel_rfl, rfl, bel_alloc HBX.out _, BoxI.new HBX.out.size, X10.out.low (one_belO wx), X11.out.low (one_belO wx), X10.out.ne', X11.out.ne', E3.out, Y1.out.low (one_belO wx), Y2.out.low (one_belO wx), Y3.out.low (one_belO wx)⟩)
          refine AllReadyH.cons (o := _) rfl (fun K hK => ?_) AllReadyH.nil
          go_simp
          exact hK.out _ _ (HKS.out _ (bel_alloc HBX.out _)) (fun _ => HIH.out _ _ _ _ (by decide) ⟨0, false, true, true, p9, p10, _, v20, v22, v24, by decide, rfl, by kernel_rfl, rfl, bel_alloc HBX.out _, X9.out.low (one_belO wx), X10.out.low (one_belO wx), BoxI.new HBX.out.size, E1.out, X9.out.ne, X10.out.ne, Y1.out.low (one_belO wx), Y2.out.low (one_belO wx), Y3.out.low (one_belO wx)⟩)
        · obtain rfl : f = 7 := hf
          subst hL
          refine wpAnyH_ready (rs := [1, 6]) (by kernel_rfl) (by simp) ?_
          refine AllReadyH.cons (o := _) rfl (fun K hK => ?_) ?_
          · go_simp
            refine (HM1.out wx).mono ?_
            rintro e w7 ⟨ra, ma, rfl, ho, hb7⟩
            exact hK.out _ _ (HKS.out w7 (HBX.out.trans (hb7.mono HBX.out.size))) (fun _ => HIH.out _ _ _ _ (by decide) ⟨1, false, true, true, p9, p10, p11, _, v22, v24, by decide, rfl, by kernel_rfl, rfl, HBX.out.trans (hb7.mono HBX.out.size), X9.out.low hb7, X10.out.low hb7, X11.out.low hb7, E1.out, E2.out, E3.out, (fun _ => ⟨ra, ma, rfl, ho⟩), OutI.no (by decide), OutI.no (by decide)⟩)
          refine AllReadyH.cons (o := _) rfl (fun K hK => ?_) AllReadyH.nil
          go_simp
          exact hK.out _ _ (HKS.out _ (bel_alloc HBX.out _)) (fun _ => HIH.out _ _ _ _ (by decide) ⟨0, true, true, true, _, p10, p11, v20, v22, v24, by decide, rfl, by kernel_rfl, rfl, bel_alloc HBX.out _, BoxI.new HBX.out.size, X10.out.low (one_belO wx), X11.out.low (one_belO wx), X10.out.ne', X11.out.ne', E3.out, Y1.out.low (one_belO wx), Y2.out.low (one_belO wx), Y3.out.low (one_belO wx)⟩)
    · cases y
      · cases z
        · obtain rfl : f = 8 := hf
          subst hL
          refine wpAnyH_ready (rs := [1, 7, 8]) (by kernel_rfl) (by simp) ?_
          refine AllReadyH.cons (o := _) rfl (fun K hK => ?_) ?_
          · go_simp
            refine (HM1.out wx).mono ?_
            rintro e w7 ⟨ra, ma, rfl, ho, hb7⟩
            exact hK.out _ _ (HKS.out w7 (HBX.out.trans (hb7.mono HBX.out.size))) (fun _ => HIH.out _ _ _ _ (by decide) ⟨1, true, false, false, p9, p10, p11, _, v22, v24, by decide, rfl, by kernel_rfl, rfl, HBX.out.trans (hb7.mono HBX.out.size), X9.out.low hb7, X10.out.low hb7, X11.out.low hb7, E1.out, E2.out, E3.out, (fun _ => ⟨ra, ma, rfl, ho⟩), OutI.no (by decide), OutI.no (by decide)⟩)
          refine AllReadyH.cons (o := _) rfl (fun K hK => ?_) ?_
          · go_simp
            exact hK.out _ _ (HKS.out _ (bel_alloc HBX.out _)) (fun _ => HIH.out _ _ _ _ (by decide) ⟨0, true, true, false, p9, _, p11, v20, v22, v24, by decide, rfl, by kernel_rfl, rfl, bel_alloc HBX.out _, X9.out.low (one_belO wx), BoxI.new HBX.out.size, X11.out.low (one_belO wx), X9.out.ne, E2.out, X11.out.ne', Y1.out.low (one_belO wx), Y2.out.low (one_belO wx), Y3.out.low (one_belO wx)⟩)
          refine AllReadyH.cons (o := _) rfl (fun K hK => ?_) AllReadyH.nil
          go_simp
          exact hK.out _ _ (HKS.out _ (bel_alloc HBX.out _)) (fun _ => HIH.out _ _ _ _ (by decide) ⟨0, true, false, true, p9, p10, _, v20, v22, v24, by decide, rfl, by kernel_rfl, rfl, bel_alloc HBX.out _, X9.out.low (one_belO wx), X10.out.low (one_belO wx), BoxI.new HBX.out.size, E1.out, X9.out.ne, X10.out.ne, Y1.out.low (one_belO wx), Y2.out.low (one_belO wx), Y3.out.low (one_belO wx)⟩)
        · obtain rfl : f = 7 := hf
          subst hL
          refine wpAnyH_ready (rs := [1, 7]) (by kernel_rfl) (by simp) ?_
          refine AllReadyH.cons (o := _) rfl (fun K hK => ?_) ?_
          · go_simp
            refine (HM1.out wx).mono ?_
            rintro e w7 ⟨ra, ma, rfl, ho, hb7⟩
            exact hK.out _ _ (HKS.out w7 (HBX.out.trans (hb7.mono HBX.out.size))) (fun _ => HIH.out _ _ _ _ (by decide) ⟨1, true, false, true, p9, p10, p11, _, v22, v24, by decide, rfl, by kernel_rfl, rfl, HBX.out.trans (hb7.mono HBX.out.size), X9.out.low hb7, X10.out.low hb7, X11.out.low hb7, E1.out, E2.out, E3.out, (fun _ => ⟨ra, ma, rfl, ho⟩), OutI.no (by decide), OutI.no (by decide)⟩)
          refine AllReadyH.cons (o := _) rfl (fun K hK => ?_) AllReadyH.nil
          go_simp
          exact hK.out _ _ (HKS.out _ (bel_alloc HBX.out _)) (fun _ => HIH.out _ _ _ _ (by decide) ⟨0, true, true, true, p9, _, p11, v20, v22, v24, by decide, rfl, by kernel_rfl, rfl, bel_alloc HBX.out _, X9.out.low (one_belO wx), BoxI.new HBX.out.size, X11.out.low (one_belO wx), X9.out.ne, E2.out, X11.out.ne', Y1.out.low (one_belO wx), Y2.out.low (one_belO wx), Y3.out.low (one_belO wx)⟩)
      · cases z
        · obtain rfl : f = 7 := hf
          subst hL
          refine wpAnyH_ready (rs := [1, 8]) (by kernel_rfl) (by simp) ?_
          refine AllReadyH.cons (o := _) rfl (fun K hK => ?_) ?_
          · go_simp
            refine (HM1.out wx).mono ?_
            rintro e w7 ⟨ra, ma, rfl, ho, hb7⟩
            exact hK.out _ _ (HKS.out w7 (HBX.out.trans (hb7.mono HBX.out.size))) (fun _ => HIH.out _ _ _ _ (by decide) ⟨1, true, true, false, p9, p10, p11, _, v22, v24, by decide, rfl, by kernel_rfl, rfl, HBX.out.trans (hb7.mono HBX.out.size), X9.out.low hb7, X10.out.low hb7, X11.out.low hb7, E1.out, E2.out, E3.out, (fun _ => ⟨ra, ma, rfl, ho⟩), OutI.no (by decide), OutI.no (by decide)⟩)
          refine AllReadyH.cons (o := _) rfl (fun K hK => ?_) AllReadyH.nil
          go_simp
          exact hK.out _ _ (HKS.out _ (bel_alloc HBX.out _)) (fun _ => HIH.out _ _ _ _ (by decide) ⟨0, true, true, true, p9, p10, _, v20, v22, v24, by decide, rfl, by kernel_rfl, rfl, bel_alloc HBX.out _, X9.out.low (one_belO wx), X10.out.low (one_belO wx), BoxI.new HBX.out.size, E1.out, X9.out.ne, X10.out.ne, Y1.out.low (one_belO wx), Y2.out.low (one_belO wx), Y3.out.low (one_belO wx)⟩)
        · obtain rfl : f = 6 := hf
          subst hL
          refine wpAnyH_ready (rs := [1]) (by kernel_rfl) (by simp) ?_
          refine AllReadyH.cons (o := _) rfl (fun K hK => ?_) AllReadyH.nil
          go_simp
          refine (HM1.out wx).mono ?_
          rintro e w7 ⟨ra, ma, rfl, ho, hb7⟩
          exact hK.out _ _ (HKS.out w7 (HBX.out.trans (hb7.mono HBX.out.size))) (fun _ => HIH.out _ _ _ _ (by decide) ⟨1, true, true, true, p9, p10, p11, _, v22, v24, by decide, rfl, by kernel_rfl, rfl, HBX.out.trans (hb7.mono HBX.out.size), X9.out.low hb7, X10.out.low hb7, X11.out.low hb7, E1.out, E2.out, E3.out, (fun _ => ⟨ra, ma, rfl, ho⟩), OutI.no (by decide), OutI.no (by decide)⟩)
  · cases x
    · cases y
      · cases z
        · obtain rfl : f = 8 := hf
          subst hL
          refine wpAnyH_ready (rs := [3, 6, 7, 8]) (by kernel_rfl) (by simp) ?_
          refine AllReadyH.cons (o := _) rfl (fun K hK => ?_) ?_
          · go_simp
            refine (HM2.out wx).mono ?_
            rintro e w7 ⟨ra, ma, rfl, ho, hb7⟩
            exact hK.out _ _ (HKS.out w7 (HBX.out.trans (hb7.mono HBX.out.size))) (fun _ => HIH.out _ _ _ _ (by decide) ⟨2, false, false, false, p9, p10, p11, v20, _, v24, by decide, rfl, by kernel_rfl, rfl, HBX.out.trans (hb7.mono HBX.out.size), X9.out.low hb7, X10.out.low hb7, X11.out.low hb7, E1.out, E2.out, E3.out, (Y1.out.low hb7).up (by decide), (fun _ => ⟨ra, ma, rfl, ho⟩), OutI.no (by decide)⟩)
          refine AllReadyH.cons (o := _) rfl (fun K hK => ?_) ?_
          · go_simp
            exact hK.out _ _ (HKS.out _ (bel_alloc HBX.out _)) (fun _ => HIH.out _ _ _ _ (by decide) ⟨1, true, false, false, _, p10, p11, v20, v22, v24, by decide, rfl, by kernel_rfl, rfl, bel_alloc HBX.out _, BoxI.new HBX.out.size, X10.out.low (one_belO wx), X11.out.low (one_belO wx), X10.out.ne', X11.out.ne', E3.out, Y1.out.low (one_belO wx), Y2.out.low (one_belO wx), Y3.out.low (one_belO wx)⟩)
          refine AllReadyH.cons (o := _) rfl (fun K hK => ?_) ?_
          · go_simp
            exact hK.out _ _ (HKS.out _ (bel_alloc HBX.out _)) (fun _ => HIH.out _ _ _ _ (by decide) ⟨1, false, true, false, p9, _, p11, v20, v22, v24, by decide, rfl, by kernel_rfl, rfl, bel_alloc HBX.out _, X9.out.low (one_belO wx), BoxI.new HBX.out.size, X11.out.low (one_belO wx), X9.out.ne, E2.out, X11.out.ne', Y1.out.low (one_belO wx), Y2.out.low (one_belO wx), Y3.out.low (one_belO wx)⟩)
          refine AllReadyH.cons (o := _) rfl (fun K hK => ?_) AllReadyH.nil
          go_simp
          exact hK.out _ _ (HKS.out _ (bel_alloc HBX.out _)) (fun _ => HIH.out _ _ _ _ (by decide) ⟨1, false, false, true, p9, p10, _, v20, v22, v24, by decide, rfl, by kernel_rfl, rfl, bel_alloc HBX.out _, X9.out.low (one_belO wx), X10.out.low (one_belO wx), BoxI.new HBX.out.size, E1.out, X9.out.ne, X10.out.ne, Y1.out.low (one_belO wx), Y2.out.low (one_belO wx), Y3.out.low (one_belO wx)⟩)
        · obtain rfl : f = 7 := hf
          subst hL
          refine wpAnyH_ready (rs := [3, 6, 7]) (by kernel_rfl) (by simp) ?_
          refine AllReadyH.cons (o := _) rfl (fun K hK => ?_) ?_
          · go_simp
            refine (HM2.out wx).mono ?_
            rintro e w7 ⟨ra, ma, rfl, ho, hb7⟩
            exact hK.out _ _ (HKS.out w7 (HBX.out.trans (hb7.mono HBX.out.size))) (fun _ => HIH.out _ _ _ _ (by decide) ⟨2, false, false, true, p9, p10, p11, v20, _, v24, by decide, rfl, by kernel_rfl, rfl, HBX.out.trans (hb7.mono HBX.out.size), X9.out.low hb7, X10.out.low hb7, X11.out.low hb7, E1.out, E2.out, E3.out, (Y1.out.low hb7).up (by decide), (fun _ => ⟨ra, ma, rfl, ho⟩), OutI.no (by decide)⟩)
          refine AllReadyH.cons (o := _) rfl (fun K hK => ?_) ?_
          · go_simp
            exact hK.out _ _ (HKS.out _ (bel_alloc HBX.out _)) (fun _ => HIH.out _ _ _ _ (by decide) ⟨1, true, false, true, _, p10, p11, v20, v22, v24, by decide, rfl, by kernel_rfl, rfl, bel_alloc HBX.out _, BoxI.new HBX.out.size, X10.out.low (one_belO wx), X11.out.low (one_belO wx), X10.out.ne', X11.out.ne', E3.out, Y1.out.low (one_belO wx), Y2.out.low (one_belO wx), Y3.out.low (one_belO wx)⟩)
          refine AllReadyH.cons (o := _) rfl (fun K hK => ?_) AllReadyH.nil
          go_simp
          exact hK.out _ _ (HKS.out _ (bel_alloc HBX.out _)) (fun _ => HIH.out _ _ _ _ (by decide) ⟨1, false, true, true, p9, _, p11, v20, v22, v24, by decide, rfl, by kernel_rfl, rfl, bel_alloc HBX.out _, X9.out.low (one_belO wx), BoxI.new HBX.out.size, X11.out.low (one_belO wx), X9.out.ne, E2.out, X11.out.ne', Y1.out.low (one_belO wx), Y2.out.low (one_belO wx), Y3.out.low (one_belO wx)⟩)
      · cases z
        · obtain rfl : f = 7 := hf
          subst hL
          refine wpAnyH_ready (rs := [3, 6, 8]) (by kernel_rfl) (by simp) ?_
          refine AllReadyH.cons (o := _) rfl (fun K hK => ?_) ?_
          · go_simp
            refine (HM2.out wx).mono ?_
            rintro e w7 ⟨ra, ma, rfl, ho, hb7⟩
            exact hK.out _ _ (HKS.out w7 (HBX.out.trans (hb7.mono HBX.out.size))) (fun _ => HIH.out _ _ _ _ (by decide) ⟨2, false, true, false, p9, p10, p11, v20, _, v24, by decide, rfl, by kernel_rfl, rfl, HBX.out.trans (hb7.mono HBX.out.size), X9.out.low hb7, X10.out.low hb7, X11.out.low hb7, E1.out, E2.out, E3.out, (Y1.out.low hb7).up (by decide), (fun _ => ⟨ra, ma, rfl, ho⟩), OutI.no (by decide)⟩)
          refine AllReadyH.cons (o := _) rfl (fun K hK => ?_) ?_
          · go_simp
            exact hK.out _ _ (HKS.out _ (bel_alloc HBX.out _)) (fun _ => HIH.out _ _ _ _ (by decide) ⟨1, true, true, false, _, p10, p11, v20, v22, v24, by decide, rfl, by kernel_rfl, rfl, bel_alloc HBX.out _, BoxI.new HBX.out.size, X10.out.low (one_belO wx), X11.out.low (one_belO wx), X10.out.ne', X11.out.ne', E3.out, Y1.out.low (one_belO wx), Y2.out.low (one_belO wx), Y3.out.low (one_belO wx)⟩)
          refine AllReadyH.cons (o := _) rfl (fun K hK => ?_) AllReadyH.nil
          go_simp
          exact hK.out _ _ (HKS.out _ (bel_alloc HBX.out _)) (fun _ => HIH.out _ _ _ _ (by decide) ⟨1, false, true, true, p9, p10, _, v20, v22, v24, by decide, rfl, by kernel_rfl, rfl, bel_alloc HBX.out _, X9.out.low (one_belO wx), X10.out.low (one_belO wx), BoxI.new HBX.out.size, E1.out, X9.out.ne, X10.out.ne, Y1.out.low (one_belO wx), Y2.out.low (one_belO wx), Y3.out.low (one_belO wx)⟩)
        · obtain rfl : f = 6 := hf
          subst hL
          refine wpAnyH_ready (rs := [3, 6]) (by kernel_rfl) (by simp) ?_
          refine AllReadyH.cons (o := _) rfl (fun K hK => ?_) ?_
          · go_simp
            refine (HM2.out wx).mono ?_
            rintro e w7 ⟨ra, ma, rfl, ho, hb7⟩
            exact hK.out _ _ (HKS.out w7 (HBX.out.trans (hb7.mono HBX.out.size))) (fun _ => HIH.out _ _ _ _ (by decide) ⟨2, false, true, true, p9, p10, p11, v20, _, v24, by decide, rfl, by kernel_rfl, rfl, HBX.out.trans (hb7.mono HBX.out.size), X9.out.low hb7, X10.out.low hb7, X11.out.low hb7, E1.out, E2.out, E3.out, (Y1.out.low hb7).up (by decide), (fun _ => ⟨ra, ma, rfl, ho⟩), OutI.no (by decide)⟩)
          refine AllReadyH.cons (o := _) rfl (fun K hK => ?_) AllReadyH.nil
          go_simp
          exact hK.out _ _ (HKS.out _ (bel_alloc HBX.out _)) (fun _ => HIH.out _ _ _ _ (by decide) ⟨1, true, true, true, _, p10, p11, v20, v22, v24, by decide, rfl, by kernel_rfl, rfl, bel_alloc HBX.out _, BoxI.new HBX.out.size, X10.out.low (one_belO wx), X11.out.low (one_belO wx), X10.out.ne', X11.out.ne', E3.out, Y1.out.low (one_belO wx), Y2.out.low (one_belO wx), Y3.out.low (one_belO wx)⟩)
    · cases y
      · cases z
        · obtain rfl : f = 7 := hf
          subst hL
          refine wpAnyH_ready (rs := [3, 7, 8]) (by kernel_rfl) (by simp) ?_
          refine AllReadyH.cons (o := _) rfl (fun K hK => ?_) ?_
          · go_simp
            refine (HM2.out wx).mono ?_
            rintro e w7 ⟨ra, ma, rfl, ho, hb7⟩
            exact hK.out _ _ (HKS.out w7 (HBX.out.trans (hb7.mono HBX.out.size))) (fun _ => HIH.out _ _ _ _ (by decide) ⟨2, true, false, false, p9, p10, p11, v20, _, v24, by decide, rfl, by kernel_rfl, rfl, HBX.out.trans (hb7.mono HBX.out.size), X9.out.low hb7, X10.out.low hb7, X11.out.low hb7, E1.out, E2.out, E3.out, (Y1.out.low hb7).up (by decide), (fun _ => ⟨ra, ma, rfl, ho⟩), OutI.no (by decide)⟩)
          refine AllReadyH.cons (o := _) rfl (fun K hK => ?_) ?_
          · go_simp
            exact hK.out _ _ (HKS.out _ (bel_alloc HBX.out _)) (fun _ => HIH.out _ _ _ _ (by decide) ⟨1, true, true, false, p9, _, p11, v20, v22, v24, by decide, rfl, by kernel_rfl, rfl, bel_alloc HBX.out _, X9.out.low (one_belO wx), BoxI.new HBX.out.size, X11.out.low (one_belO wx), X9.out.ne, E2.out, X11.out.ne', Y1.out.low (one_belO wx), Y2.out.low (one_belO wx), Y3.out.low (one_belO wx)⟩)
          refine AllReadyH.cons (o := _) rfl (fun K hK => ?_) AllReadyH.nil
          go_simp
          exact hK.out _ _ (HKS.out _ (bel_alloc HBX.out _)) (fun _ => HIH.out _ _ _ _ (by decide) ⟨1, true, false, true, p9, p10, _, v20, v22, v24, by decide, rfl, by kernel_rfl, rfl, bel_alloc HBX.out _, X9.out.low (one_belO wx), X10.out.low (one_belO wx), BoxI.new HBX.out.size, E1.out, X9.out.ne, X10.out.ne, Y1.out.low (one_belO wx), Y2.out.low (one_belO wx), Y3.out.low (one_belO wx)⟩)
        · obtain rfl : f = 6 := hf
          subst hL
          refine wpAnyH_ready (rs := [3, 7]) (by kernel_rfl) (by simp) ?_
          refine AllReadyH.cons (o := _) rfl (fun K hK => ?_) ?_
          · go_simp
            refine (HM2.out wx).mono ?_
            rintro e w7 ⟨ra, ma, rfl, ho, hb7⟩
            exact hK.out _ _ (HKS.out w7 (HBX.out.trans (hb7.mono HBX.out.size))) (fun _ => HIH.out _ _ _ _ (by decide) ⟨2, true, false, true, p9, p10, p11, v20, _, v24, by decide, rfl, by kernel_rfl, rfl, HBX.out.trans (hb7.mono HBX.out.size), X9.out.low hb7, X10.out.low hb7, X11.out.low hb7, E1.out, E2.out, E3.out, (Y1.out.low hb7).up (by decide), (fun _ => ⟨ra, ma, rfl, ho⟩), OutI.no (by decide)⟩)
          refine AllReadyH.cons (o := _) rfl (fun K hK => ?_) AllReadyH.nil
          go_simp
          exact hK.out _ _ (HKS.out _ (bel_alloc HBX.out _)) (fun _ => HIH.out _ _ _ _ (by decide) ⟨1, true, true, true, p9, _, p11, v20, v22, v24, by decide, rfl, by kernel_rfl, rfl, bel_alloc HBX.out _, X9.out.low (one_belO wx), BoxI.new HBX.out.size, X11.out.low (one_belO wx), X9.out.ne, E2.out, X11.out.ne', Y1.out.low (one_belO wx), Y2.out.low (one_belO wx), Y3.out.low (one_belO wx)⟩)
      · cases z
        · obtain rfl : f = 6 := hf
          subst hL
          refine wpAnyH_ready (rs := [3, 8]) (by kernel_rfl) (by simp) ?_
          refine AllReadyH.cons (o := _) rfl (fun K hK => ?_) ?_
          · go_simp
            refine (HM2.out wx).mono ?_
            rintro e w7 ⟨ra, ma, rfl, ho, hb7⟩
            exact hK.out _ _ (HKS.out w7 (HBX.out.trans (hb7.mono HBX.out.size))) (fun _ => HIH.out _ _ _ _ (by decide) ⟨2, true, true, false, p9, p10, p11, v20, _, v24, by decide, rfl, by kernel_rfl, rfl, HBX.out.trans (hb7.mono HBX.out.size), X9.out.low hb7, X10.out.low hb7, X11.out.low hb7, E1.out, E2.out, E3.out, (Y1.out.low hb7).up (by decide), (fun _ => ⟨ra, ma, rfl, ho⟩), OutI.no (by decide)⟩)
          refine AllReadyH.cons (o := _) rfl (fun K hK => ?_) AllReadyH.nil
          go_simp
          exact hK.out _ _ (HKS.out _ (bel_alloc HBX.out _)) (fun _ => HIH.out _ _ _ _ (by decide) ⟨1, true, true, true, p9, p10, _, v20, v22, v24, by decide, rfl, by kernel_rfl, rfl, bel_alloc HBX.out _, X9.out.low (one_belO wx), X10.out.low (one_belO wx), BoxI.new HBX.out.size, E1.out, X9.out.ne, X10.out.ne, Y1.out.low (one_belO wx), Y2.out.low (one_belO wx), Y3.out.low (one_belO wx)⟩)
        · obtain rfl : f = 5 := hf
          subst hL
          refine wpAnyH_ready (rs := [3]) (by kernel_rfl) (by simp) ?_
          refine AllReadyH.cons (o := _) rfl (fun K hK => ?_) AllReadyH.nil
          go_simp
          refine (HM2.out wx).mono ?_
          rintro e w7 ⟨ra, ma, rfl, ho, hb7⟩
          exact hK.out _ _ (HKS.out w7 (HBX.out.trans (hb7.mono HBX.out.size))) (fun _ => HIH.out _ _ _ _ (by decide) ⟨2, true, true, true, p9, p10, p11, v20, _, v24, by decide, rfl, by kernel_rfl, rfl, HBX.out.trans (hb7.mono HBX.out.size), X9.out.low hb7, X10.out.low hb7, X11.out.low hb7, E1.out, E2.out, E3.out, (Y1.out.low hb7).up (by decide), (fun _ => ⟨ra, ma, rfl, ho⟩), OutI.no (by decide)⟩)
  · cases x
    · cases y
      · cases z
        · obtain rfl : f = 7 := hf
          subst hL
          refine wpAnyH_ready (rs := [5, 6, 7, 8]) (by kernel_rfl) (by simp) ?_
          refine AllReadyH.cons (o := _) rfl (fun K hK => ?_) ?_
          · go_simp
            refine (HM3.out wx).mono ?_
            rintro e w7 ⟨ra, ma, rfl, ho, hb7⟩
            exact hK.out _ _ (HKS.out w7 (HBX.out.trans (hb7.mono HBX.out.size))) (fun _ => HIH.out _ _ _ _ (by decide) ⟨3, false, false, false, p9, p10, p11, v20, v22, _, by decide, rfl, by kernel_rfl, rfl, HBX.out.trans (hb7.mono HBX.out.size), X9.out.low hb7, X10.out.low hb7, X11.out.low hb7, E1.out, E2.out, E3.out, (Y1.out.low hb7).up (by decide), (Y2.out.low hb7).up (by decide), (fun _ => ⟨ra, ma, rfl, ho⟩)⟩)
          refine AllReadyH.cons (o := _) rfl (fun K hK => ?_) ?_
          · go_simp
            exact hK.out _ _ (HKS.out _ (bel_alloc HBX.out _)) (fun _ => HIH.out _ _ _ _ (by decide) ⟨2, true, false, false, _, p10, p11, v20, v22, v24, by decide, rfl, by kernel_rfl, rfl, bel_alloc HBX.out _, BoxI.new HBX.out.size, X10.out.low (one_belO wx), X11.out.low (one_belO wx), X10.out.ne', X11.out.ne', E3.out, Y1.out.low (one_belO wx), Y2.out.low (one_belO wx), Y3.out.low (one_belO wx)⟩)
          refine AllReadyH.cons (o := _) rfl (fun K hK => ?_) ?_
          · go_simp
            exact hK.out _ _ (HKS.out _ (bel_alloc HBX.out _)) (fun _ => HIH.out _ _ _ _ (by decide) ⟨2, false, true, false, p9, _, p11, v20, v22, v24, by decide, rfl, by kernel_rfl, rfl, bel_alloc HBX.out _, X9.out.low (one_belO wx), BoxI.new HBX.out.size, X11.out.low (one_belO wx), X9.out.ne, E2.out, X11.out.ne', Y1.out.low (one_belO wx), Y2.out.low (one_belO wx), Y3.out.low (one_belO wx)⟩)
          refine AllReadyH.cons (o := _) rfl (fun K hK => ?_) AllReadyH.nil
          go_simp
          exact hK.out _ _ (HKS.out _ (bel_alloc HBX.out _)) (fun _ => HIH.out _ _ _ _ (by decide) ⟨2, false, false, true, p9, p10, _, v20, v22, v24, by decide, rfl, by kernel_rfl, rfl, bel_alloc HBX.out _, X9.out.low (one_belO wx), X10.out.low (one_belO wx), BoxI.new HBX.out.size, E1.out, X9.out.ne, X10.out.ne, Y1.out.low (one_belO wx), Y2.out.low (one_belO wx), Y3.out.low (one_belO wx)⟩)
        · obtain rfl : f = 6 := hf
          subst hL
          refine wpAnyH_ready (rs := [5, 6, 7]) (by kernel_rfl) (by simp) ?_
          refine AllReadyH.cons (o := _) rfl (fun K hK => ?_) ?_
          · go_simp
            refine (HM3.out wx).mono ?_
            rintro e w7 ⟨ra, ma, rfl, ho, hb7⟩
            exact hK.out _ _ (HKS.out w7 (HBX.out.trans (hb7.mono HBX.out.size))) (fun _ => HIH.out _ _ _ _ (by decide) ⟨3, false, false, true, p9, p10, p11, v20, v22, _, by decide, rfl, by kernel_rfl, rfl, HBX.out.trans (hb7.mono HBX.out.size), X9.out.low hb7, X10.out.low hb7, X11.out.low hb7, E1.out, E2.out, E3.out, (Y1.out.low hb7).up (by decide), (Y2.out.low hb7).up (by decide), (fun _ => ⟨ra, ma, rfl, ho⟩)⟩)
          refine AllReadyH.cons (o := _) rfl (fun K hK => ?_) ?_
          · go_simp
            exact hK.out _ _ (HKS.out _ (bel_alloc HBX.out _)) (fun _ => HIH.out _ _ _ _ (by decide) ⟨2, true, false, true, _, p10, p11, v20, v22, v24, by decide, rfl, by kernel_rfl, rfl, bel_alloc HBX.out _, BoxI.new HBX.out.size, X10.out.low (one_belO wx), X11.out.low (one_belO wx), X10.out.ne', X11.out.ne', E3.out, Y1.out.low (one_belO wx), Y2.out.low (one_belO wx), Y3.out.low (one_belO wx)⟩)
          refine AllReadyH.cons (o := _) rfl (fun K hK => ?_) AllReadyH.nil
          go_simp
          exact hK.out _ _ (HKS.out _ (bel_alloc HBX.out _)) (fun _ => HIH.out _ _ _ _ (by decide) ⟨2, false, true, true, p9, _, p11, v20, v22, v24, by decide, rfl, by kernel_rfl, rfl, bel_alloc HBX.out _, X9.out.low (one_belO wx), BoxI.new HBX.out.size, X11.out.low (one_belO wx), X9.out.ne, E2.out, X11.out.ne', Y1.out.low (one_belO wx), Y2.out.low (one_belO wx), Y3.out.low (one_belO wx)⟩)
      · cases z
        · obtain rfl : f = 6 := hf
          subst hL
          refine wpAnyH_ready (rs := [5, 6, 8]) (by kernel_rfl) (by simp) ?_
          refine AllReadyH.cons (o := _) rfl (fun K hK => ?_) ?_
          · go_simp
            refine (HM3.out wx).mono ?_
            rintro e w7 ⟨ra, ma, rfl, ho, hb7⟩
            exact hK.out _ _ (HKS.out w7 (HBX.out.trans (hb7.mono HBX.out.size))) (fun _ => HIH.out _ _ _ _ (by decide) ⟨3, false, true, false, p9, p10, p11, v20, v22, _, by decide, rfl, by kernel_rfl, rfl, HBX.out.trans (hb7.mono HBX.out.size), X9.out.low hb7, X10.out.low hb7, X11.out.low hb7, E1.out, E2.out, E3.out, (Y1.out.low hb7).up (by decide), (Y2.out.low hb7).up (by decide), (fun _ => ⟨ra, ma, rfl, ho⟩)⟩)
          refine AllReadyH.cons (o := _) rfl (fun K hK => ?_) ?_
          · go_simp
            exact hK.out _ _ (HKS.out _ (bel_alloc HBX.out _)) (fun _ => HIH.out _ _ _ _ (by decide) ⟨2, true, true, false, _, p10, p11, v20, v22, v24, by decide, rfl, by kernel_rfl, rfl, bel_alloc HBX.out _, BoxI.new HBX.out.size, X10.out.low (one_belO wx), X11.out.low (one_belO wx), X10.out.ne', X11.out.ne', E3.out, Y1.out.low (one_belO wx), Y2.out.low (one_belO wx), Y3.out.low (one_belO wx)⟩)
          refine AllReadyH.cons (o := _) rfl (fun K hK => ?_) AllReadyH.nil
          go_simp
          exact hK.out _ _ (HKS.out _ (bel_alloc HBX.out _)) (fun _ => HIH.out _ _ _ _ (by decide) ⟨2, false, true, true, p9, p10, _, v20, v22, v24, by decide, rfl, by kernel_rfl, rfl, bel_alloc HBX.out _, X9.out.low (one_belO wx), X10.out.low (one_belO wx), BoxI.new HBX.out.size, E1.out, X9.out.ne, X10.out.ne, Y1.out.low (one_belO wx), Y2.out.low (one_belO wx), Y3.out.low (one_belO wx)⟩)
        · obtain rfl : f = 5 := hf
          subst hL
          refine wpAnyH_ready (rs := [5, 6]) (by kernel_rfl) (by simp) ?_
          refine AllReadyH.cons (o := _) rfl (fun K hK => ?_) ?_
          · go_simp
            refine (HM3.out wx).mono ?_
            rintro e w7 ⟨ra, ma, rfl, ho, hb7⟩
            exact hK.out _ _ (HKS.out w7 (HBX.out.trans (hb7.mono HBX.out.size))) (fun _ => HIH.out _ _ _ _ (by decide) ⟨3, false, true, true, p9, p10, p11, v20, v22, _, by decide, rfl, by kernel_rfl, rfl, HBX.out.trans (hb7.mono HBX.out.size), X9.out.low hb7, X10.out.low hb7, X11.out.low hb7, E1.out, E2.out, E3.out, (Y1.out.low hb7).up (by decide), (Y2.out.low hb7).up (by decide), (fun _ => ⟨ra, ma, rfl, ho⟩)⟩)
          refine AllReadyH.cons (o := _) rfl (fun K hK => ?_) AllReadyH.nil
          go_simp
          exact hK.out _ _ (HKS.out _ (bel_alloc HBX.out _)) (fun _ => HIH.out _ _ _ _ (by decide) ⟨2, true, true, true, _, p10, p11, v20, v22, v24, by decide, rfl, by kernel_rfl, rfl, bel_alloc HBX.out _, BoxI.new HBX.out.size, X10.out.low (one_belO wx), X11.out.low (one_belO wx), X10.out.ne', X11.out.ne', E3.out, Y1.out.low (one_belO wx), Y2.out.low (one_belO wx), Y3.out.low (one_belO wx)⟩)
    · cases y
      · cases z
        · obtain rfl : f = 6 := hf
          subst hL
          refine wpAnyH_ready (rs := [5, 7, 8]) (by kernel_rfl) (by simp) ?_
          refine AllReadyH.cons (o := _) rfl (fun K hK => ?_) ?_
          · go_simp
            refine (HM3.out wx).mono ?_
            rintro e w7 ⟨ra, ma, rfl, ho, hb7⟩
            exact hK.out _ _ (HKS.out w7 (HBX.out.trans (hb7.mono HBX.out.size))) (fun _ => HIH.out _ _ _ _ (by decide) ⟨3, true, false, false, p9, p10, p11, v20, v22, _, by decide, rfl, by kernel_rfl, rfl, HBX.out.trans (hb7.mono HBX.out.size), X9.out.low hb7, X10.out.low hb7, X11.out.low hb7, E1.out, E2.out, E3.out, (Y1.out.low hb7).up (by decide), (Y2.out.low hb7).up (by decide), (fun _ => ⟨ra, ma, rfl, ho⟩)⟩)
          refine AllReadyH.cons (o := _) rfl (fun K hK => ?_) ?_
          · go_simp
            exact hK.out _ _ (HKS.out _ (bel_alloc HBX.out _)) (fun _ => HIH.out _ _ _ _ (by decide) ⟨2, true, true, false, p9, _, p11, v20, v22, v24, by decide, rfl, by kernel_rfl, rfl, bel_alloc HBX.out _, X9.out.low (one_belO wx), BoxI.new HBX.out.size, X11.out.low (one_belO wx), X9.out.ne, E2.out, X11.out.ne', Y1.out.low (one_belO wx), Y2.out.low (one_belO wx), Y3.out.low (one_belO wx)⟩)
          refine AllReadyH.cons (o := _) rfl (fun K hK => ?_) AllReadyH.nil
          go_simp
          exact hK.out _ _ (HKS.out _ (bel_alloc HBX.out _)) (fun _ => HIH.out _ _ _ _ (by decide) ⟨2, true, false, true, p9, p10, _, v20, v22, v24, by decide, rfl, by kernel_rfl, rfl, bel_alloc HBX.out _, X9.out.low (one_belO wx), X10.out.low (one_belO wx), BoxI.new HBX.out.size, E1.out, X9.out.ne, X10.out.ne, Y1.out.low (one_belO wx), Y2.out.low (one_belO wx), Y3.out.low (one_belO wx)⟩)
        · obtain rfl : f = 5 := hf
          subst hL
          refine wpAnyH_ready (rs := [5, 7]) (by kernel_rfl) (by simp) ?_
          refine AllReadyH.cons (o := _) rfl (fun K hK => ?_) ?_
          · go_simp
            refine (HM3.out wx).mono ?_
            rintro e w7 ⟨ra, ma, rfl, ho, hb7⟩
            exact hK.out _ _ (HKS.out w7 (HBX.out.trans (hb7.mono HBX.out.size))) (fun _ => HIH.out _ _ _ _ (by decide) ⟨3, true, false, true, p9, p10, p11, v20, v22, _, by decide, rfl, by kernel_rfl, rfl, HBX.out.trans (hb7.mono HBX.out.size), X9.out.low hb7, X10.out.low hb7, X11.out.low hb7, E1.out, E2.out, E3.out, (Y1.out.low hb7).up (by decide), (Y2.out.low hb7).up (by decide), (fun _ => ⟨ra, ma, rfl, ho⟩)⟩)
          refine AllReadyH.cons (o := _) rfl (fun K hK => ?_) AllReadyH.nil
          go_simp
          exact hK.out _ _ (HKS.out _ (bel_alloc HBX.out _)) (fun _ => HIH.out _ _ _ _ (by decide) ⟨2, true, true, true, p9, _, p11, v20, v22, v24, by decide, rfl, by kernel_rfl, rfl, bel_alloc HBX.out _, X9.out.low (one_belO wx), BoxI.new HBX.out.size, X11.out.low (one_belO wx), X9.out.ne, E2.out, X11.out.ne', Y1.out.low (one_belO wx), Y2.out.low (one_belO wx), Y3.out.low (one_belO wx)⟩)
      · cases z
        · obtain rfl : f = 5 := hf
          subst hL
          refine wpAnyH_ready (rs := [5, 8]) (by kernel_rfl) (by simp) ?_
          refine AllReadyH.cons (o := _) rfl (fun K hK => ?_) ?_
          · go_simp
            refine (HM3.out wx).mono ?_
            rintro e w7 ⟨ra, ma, rfl, ho, hb7⟩
            exact hK.out _ _ (HKS.out w7 (HBX.out.trans (hb7.mono HBX.out.size))) (fun _ => HIH.out _ _ _ _ (by decide) ⟨3, true, true, false, p9, p10, p11, v20, v22, _, by decide, rfl, by kernel_rfl, rfl, HBX.out.trans (hb7.mono HBX.out.size), X9.out.low hb7, X10.out.low hb7, X11.out.low hb7, E1.out, E2.out, E3.out, (Y1.out.low hb7).up (by decide), (Y2.out.low hb7).up (by decide), (fun _ => ⟨ra, ma, rfl, ho⟩)⟩)
          refine AllReadyH.cons (o := _) rfl (fun K hK => ?_) AllReadyH.nil
          go_simp
          exact hK.out _ _ (HKS.out _ (bel_alloc HBX.out _)) (fun _ => HIH.out _ _ _ _ (by decide) ⟨2, true, true, true, p9, p10, _, v20, v22, v24, by decide, rfl, by kernel_rfl, rfl, bel_alloc HBX.out _, X9.out.low (one_belO wx), X10.out.low (one_belO wx), BoxI.new HBX.out.size, E1.out, X9.out.ne, X10.out.ne, Y1.out.low (one_belO wx), Y2.out.low (one_belO wx), Y3.out.low (one_belO wx)⟩)
        · obtain rfl : f = 4 := hf
          subst hL
          refine wpAnyH_ready (rs := [5]) (by kernel_rfl) (by simp) ?_
          refine AllReadyH.cons (o := _) rfl (fun K hK => ?_) AllReadyH.nil
          go_simp
          refine (HM3.out wx).mono ?_
          rintro e w7 ⟨ra, ma, rfl, ho, hb7⟩
          exact hK.out _ _ (HKS.out w7 (HBX.out.trans (hb7.mono HBX.out.size))) (fun _ => HIH.out _ _ _ _ (by decide) ⟨3, true, true, true, p9, p10, p11, v20, v22, _, by decide, rfl, by kernel_rfl, rfl, HBX.out.trans (hb7.mono HBX.out.size), X9.out.low hb7, X10.out.low hb7, X11.out.low hb7, E1.out, E2.out, E3.out, (Y1.out.low hb7).up (by decide), (Y2.out.low hb7).up (by decide), (fun _ => ⟨ra, ma, rfl, ho⟩)⟩)
  · cases x
    · cases y
      · cases z
        · obtain rfl : f = 6 := hf
          subst hL
          refine wpAnyH_ready (rs := [6, 7, 8]) (by kernel_rfl) (by simp) ?_
          refine AllReadyH.cons (o := _) rfl (fun K hK => ?_) ?_
          · go_simp
            exact hK.out _ _ (HKS.out _ (bel_alloc HBX.out _)) (fun _ => HIH.out _ _ _ _ (by decide) ⟨3, true, false, false, _, p10, p11, v20, v22, v24, by decide, rfl, by kernel_rfl, rfl, bel_alloc HBX.out _, BoxI.new HBX.out.size, X10.out.low (one_belO wx), X11.out.low (one_belO wx), X10.out.ne', X11.out.ne', E3.out, Y1.out.low (one_belO wx), Y2.out.low (one_belO wx), Y3.out.low (one_belO wx)⟩)
          refine AllReadyH.cons (o := _) rfl (fun K hK => ?_) ?_
          · go_simp
            exact hK.out _ _ (HKS.out _ (bel_alloc HBX.out _)) (fun _ => HIH.out _ _ _ _ (by decide) ⟨3, false, true, false, p9, _, p11, v20, v22, v24, by decide, rfl, by kernel_rfl, rfl, bel_alloc HBX.out _, X9.out.low (one_belO wx), BoxI.new HBX.out.size, X11.out.low (one_belO wx), X9.out.ne, E2.out, X11.out.ne', Y1.out.low (one_belO wx), Y2.out.low (one_belO wx), Y3.out.low (one_belO wx)⟩)
          refine AllReadyH.cons (o := _) rfl (fun K hK => ?_) AllReadyH.nil
          go_simp
          exact hK.out _ _ (HKS.out _ (bel_alloc HBX.out _)) (fun _ => HIH.out _ _ _ _ (by decide) ⟨3, false, false, true, p9, p10, _, v20, v22, v24, by decide, rfl, by kernel_rfl, rfl, bel_alloc HBX.out _, X9.out.low (one_belO wx), X10.out.low (one_belO wx), BoxI.new HBX.out.size, E1.out, X9.out.ne, X10.out.ne, Y1.out.low (one_belO wx), Y2.out.low (one_belO wx), Y3.out.low (one_belO wx)⟩)
        · obtain rfl : f = 5 := hf
          subst hL
          refine wpAnyH_ready (rs := [6, 7]) (by kernel_rfl) (by simp) ?_
          refine AllReadyH.cons (o := _) rfl (fun K hK => ?_) ?_
          · go_simp
            exact hK.out _ _ (HKS.out _ (bel_alloc HBX.out _)) (fun _ => HIH.out _ _ _ _ (by decide) ⟨3, true, false, true, _, p10, p11, v20, v22, v24, by decide, rfl, by kernel_rfl, rfl, bel_alloc HBX.out _, BoxI.new HBX.out.size, X10.out.low (one_belO wx), X11.out.low (one_belO wx), X10.out.ne', X11.out.ne', E3.out, Y1.out.low (one_belO wx), Y2.out.low (one_belO wx), Y3.out.low (one_belO wx)⟩)
          refine AllReadyH.cons (o := _) rfl (fun K hK => ?_) AllReadyH.nil
          go_simp
          exact hK.out _ _ (HKS.out _ (bel_alloc HBX.out _)) (fun _ => HIH.out _ _ _ _ (by decide) ⟨3, false, true, true, p9, _, p11, v20, v22, v24, by decide, rfl, by kernel_rfl, rfl, bel_alloc HBX.out _, X9.out.low (one_belO wx), BoxI.new HBX.out.size, X11.out.low (one_belO wx), X9.out.ne, E2.out, X11.out.ne', Y1.out.low (one_belO wx), Y2.out.low (one_belO wx), Y3.out.low (one_belO wx)⟩)
      · cases z
        · obtain rfl : f = 5 := hf
          subst hL
          refine wpAnyH_ready (rs := [6, 8]) (by kernel_rfl) (by simp) ?_
          refine AllReadyH.cons (o := _) rfl (fun K hK => ?_) ?_
          · go_simp
            exact hK.out _ _ (HKS.out _ (bel_alloc HBX.out _)) (fun _ => HIH.out _ _ _ _ (by decide) ⟨3, true, true, false, _, p10, p11, v20, v22, v24, by decide, rfl, by kernel_rfl, rfl, bel_alloc HBX.out _, BoxI.new HBX.out.size, X10.out.low (one_belO wx), X11.out.low (one_belO wx), X10.out.ne', X11.out.ne', E3.out, Y1.out.low (one_belO wx), Y2.out.low (one_belO wx), Y3.out.low (one_belO wx)⟩)
          refine AllReadyH.cons (o := _) rfl (fun K hK => ?_) AllReadyH.nil
          go_simp
          exact hK.out _ _ (HKS.out _ (bel_alloc HBX.out _)) (fun _ => HIH.out _ _ _ _ (by decide) ⟨3, false, true, true, p9, p10, _, v20, v22, v24, by decide, rfl, by kernel_rfl, rfl, bel_alloc HBX.out _, X9.out.low (one_belO wx), X10.out.low (one_belO wx), BoxI.new HBX.out.size, E1.out, X9.out.ne, X10.out.ne, Y1.out.low (one_belO wx), Y2.out.low (one_belO wx), Y3.out.low (one_belO wx)⟩)
        · obtain rfl : f = 4 := hf
          subst hL
          refine wpAnyH_ready (rs := [6]) (by kernel_rfl) (by simp) ?_
          refine AllReadyH.cons (o := _) rfl (fun K hK => ?_) AllReadyH.nil
          go_simp
          exact hK.out _ _ (HKS.out _ (bel_alloc HBX.out _)) (fun _ => HIH.out _ _ _ _ (by decide) ⟨3, true, true, true, _, p10, p11, v20, v22, v24, by decide, rfl, by kernel_rfl, rfl, bel_alloc HBX.out _, BoxI.new HBX.out.size, X10.out.low (one_belO wx), X11.out.low (one_belO wx), X10.out.ne', X11.out.ne', E3.out, Y1.out.low (one_belO wx), Y2.out.low (one_belO wx), Y3.out.low (one_belO wx)⟩)
    · cases y
      · cases z
        · obtain rfl : f = 5 := hf
          subst hL
          refine wpAnyH_ready (rs := [7, 8]) (by kernel_rfl) (by simp) ?_
          refine AllReadyH.cons (o := _) rfl (fun K hK => ?_) ?_
          · go_simp
            exact hK.out _ _ (HKS.out _ (bel_alloc HBX.out _)) (fun _ => HIH.out _ _ _ _ (by decide) ⟨3, true, true, false, p9, _, p11, v20, v22, v24, by decide, rfl, by kernel_rfl, rfl, bel_alloc HBX.out _, X9.out.low (one_belO wx), BoxI.new HBX.out.size, X11.out.low (one_belO wx), X9.out.ne, E2.out, X11.out.ne', Y1.out.low (one_belO wx), Y2.out.low (one_belO wx), Y3.out.low (one_belO wx)⟩)
          refine AllReadyH.cons (o := _) rfl (fun K hK => ?_) AllReadyH.nil
          go_simp
          exact hK.out _ _ (HKS.out _ (bel_alloc HBX.out _)) (fun _ => HIH.out _ _ _ _ (by decide) ⟨3, true, false, true, p9, p10, _, v20, v22, v24, by decide, rfl, by kernel_rfl, rfl, bel_alloc HBX.out _, X9.out.low (one_belO wx), X10.out.low (one_belO wx), BoxI.new HBX.out.size, E1.out, X9.out.ne, X10.out.ne, Y1.out.low (one_belO wx), Y2.out.low (one_belO wx), Y3.out.low (one_belO wx)⟩)
        · obtain rfl : f = 4 := hf
          subst hL
          refine wpAnyH_ready (rs := [7]) (by kernel_rfl) (by simp) ?_
          refine AllReadyH.cons (o := _) rfl (fun K hK => ?_) AllReadyH.nil
          go_simp
          exact hK.out _ _ (HKS.out _ (bel_alloc HBX.out _)) (fun _ => HIH.out _ _ _ _ (by decide) ⟨3, true, true, true, p9, _, p11, v20, v22, v24, by decide, rfl, by kernel_rfl, rfl, bel_alloc HBX.out _, X9.out.low (one_belO wx), BoxI.new HBX.out.size, X11.out.low (one_belO wx), X9.out.ne, E2.out, X11.out.ne', Y1.out.low (one_belO wx), Y2.out.low (one_belO wx), Y3.out.low (one_belO wx)⟩)
      · cases z
        · obtain rfl : f = 4 := hf
          subst hL
          refine wpAnyH_ready (rs := [8]) (by kernel_rfl) (by simp) ?_
          refine AllReadyH.cons (o := _) rfl (fun K hK => ?_) AllReadyH.nil
          go_simp
          exact hK.out _ _ (HKS.out _ (bel_alloc HBX.out _)) (fun _ => HIH.out _ _ _ _ (by decide) ⟨3, true, true, true, p9, p10, _, v20, v22, v24, by decide, rfl, by kernel_rfl, rfl, bel_alloc HBX.out _, X9.out.low (one_belO wx), X10.out.low (one_belO wx), BoxI.new HBX.out.size, E1.out, X9.out.ne, X10.out.ne, Y1.out.low (one_belO wx), Y2.out.low (one_belO wx), Y3.out.low (one_belO wx)⟩)
        · obtain rfl : f = 3 := hf
          subst hL
          obtain ⟨b1, rfl, K1, hB1⟩ := X9.out rfl
          obtain ⟨b2, rfl, K2, hB2⟩ := X10.out rfl
          obtain ⟨b3, rfl, K3, hB3⟩ := X11.out rfl
          have n12 := ptr_ne (E1.out rfl rfl)
          have n13 := ptr_ne (E2.out rfl rfl)
          have n23 := ptr_ne (E3.out rfl rfl)
          obtain ⟨ra1, ma1, rfl, o1⟩ := Y1.out (by decide)
          obtain ⟨ra2, ma2, rfl, o2⟩ := Y2.out (by decide)
          obtain ⟨ra3, ma3, rfl, o3⟩ := Y3.out (by decide)
          have hU0 := HBX.out
          have hU1 := (hU0.setCell (p := ⟨b1, 0, none⟩) hB1 (.slice ra1 2 2)).setCell (p := ⟨b1, 1, none⟩) hB1 (.slice ma1 2 2)
          have hU2 := (hU1.setCell (p := ⟨b2, 0, none⟩) hB2 (.slice ra2 2 2)).setCell (p := ⟨b2, 1, none⟩) hB2 (.slice ma2 2 2)
          have hU3 := (hU2.setCell (p := ⟨b3, 0, none⟩) hB3 (.slice ra3 2 2)).setCell (p := ⟨b3, 1, none⟩) hB3 (.slice ma3 2 2)
          have P1 := put2B (a' := .slice ra1 2 2) (b' := .slice ma1 2 2) K1
          have K21 := far2B (R := b1) (a' := .slice ra1 2 2) (b' := .slice ma1 2 2) K2 n12.symm
          have K31 := far2B (R := b1) (a' := .slice ra1 2 2) (b' := .slice ma1 2 2) K3 n13.symm
          have o11 := o1.set2 (a' := .slice ra1 2 2) (b' := .slice ma1 2 2) K1
          have o21 := o2.set2 (a' := .slice ra1 2 2) (b' := .slice ma1 2 2) K1
          have o31 := o3.set2 (a' := .slice ra1 2 2) (b' := .slice ma1 2 2) K1
          have P12 := far2B (R := b2) (a' := .slice ra2 2 2) (b' := .slice ma2 2 2) P1 n12
          have P2 := put2B (a' := .slice ra2 2 2) (b' := .slice ma2 2 2) K21
          have K32 := far2B (R := b2) (a' := .slice ra2 2 2) (b' := .slice ma2 2 2) K31 n23.symm
          have o12 := o11.set2 (a' := .slice ra2 2 2) (b' := .slice ma2 2 2) K21
          have o22 := o21.set2 (a' := .slice ra2 2 2) (b' := .slice ma2 2 2) K21
          have o32 := o31.set2 (a' := .slice ra2 2 2) (b' := .slice ma2 2 2) K21
          have HP13 := Lib.hid (far2B (R := b3) (a' := .slice ra3 2 2) (b' := .slice ma3 2 2) P12 n13)
          have HP23 := Lib.hid (far2B (R := b3) (a' := .slice ra3 2 2) (b' := .slice ma3 2 2) P2 n23)
          have HP33 := Lib.hid (put2B (a' := .slice ra3 2 2) (b' := .slice ma3 2 2) K32)
          have HO1 := Lib.hid (o12.set2 (a' := .slice ra3 2 2) (b' := .slice ma3 2 2) K32).out
          have HO2 := Lib.hid (o22.set2 (a' := .slice ra3 2 2) (b' := .slice ma3 2 2) K32).out
          have HO3 := Lib.hid (o32.set2 (a' := .slice ra3 2 2) (b' := .slice ma3 2 2) K32).out
          have HK1 := Lib.hid K1
          have HK21 := Lib.hid K21
          have HK32 := Lib.hid K32
          have HU1 := Lib.hid hU1
          have HU2 := Lib.hid hU2
          have HU3 := Lib.hid hU3
          clear hU0 hU1 hU2 hU3 P1 K1 K2 K3 K21 K31 o1 o2 o3 o11 o21 o31 P12 P2 K32 o12 o22 o32 n12 n13 n23 X9 X10 X11 E1 E2 E3 Y1 Y2 Y3 HM1 HM2 HM3 HIH
          refine wpAnyH_ready (rs := [9]) (by kernel_rfl) (by simp) ?_
          refine AllReadyH.cons (o := _) rfl (fun K hK => ?_) AllReadyH.nil
          have c0 := HK1.out.cell 0
          have c1 := HK1.out.cell 1
          have f0 := HK1.out.free 0
          have f1 := HK1.out.free 1
          simp only [zO, List.getElem?_toArray, List.getElem?_cons_zero, List.getElem?_cons_succ] at c0 c1
          go_simp
          refine hK.out _ _ (HKS.out _ HU1.out) (fun _ => ?_)
          refine wpAnyH_ready (rs := [10]) (by kernel_rfl) (by simp) ?_
          refine AllReadyH.cons (o := _) rfl (fun K hK => ?_) AllReadyH.nil
          clear c0 c1 f0 f1
          have c0 := HK21.out.cell 0
          have c1 := HK21.out.cell 1
          have f0 := HK21.out.free 0
          have f1 := HK21.out.free 1
          simp only [zO, List.getElem?_toArray, List.getElem?_cons_zero, List.getElem?_cons_succ] at c0 c1
          go_simp
          refine hK.out _ _ (HKS.out _ HU2.out) (fun _ => ?_)
          refine wpAnyH_ready (rs := [11]) (by kernel_rfl) (by simp) ?_
          refine AllReadyH.cons (o := _) rfl (fun K hK => ?_) AllReadyH.nil
          clear c0 c1 f0 f1
          have c0 := HK32.out.cell 0
          have c1 := HK32.out.cell 1
          have f0 := HK32.out.free 0
          have f1 := HK32.out.free 1
          simp only [zO, List.getElem?_toArray, List.getElem?_cons_zero, List.getElem?_cons_succ] at c0 c1
          go_simp
          refine hK.out _ _ (HKS.out _ HU3.out) (fun _ => ?_)
          refine wpAnyH_done (by kernel_rfl) ?_ _
          clear c0 c1 f0 f1 HK1 HK21 HK32 HU1 HU2
          generalize (((((wx.setCell { block := b1, off := 0 } (Value.slice ra1 2 2)).setCell { block := b1, off := 1 } (Value.slice ma1 2 2)).setCell { block := b2, off := 0 } (Value.slice ra2 2 2)).setCell { block := b2, off := 1 } (Value.slice ma2 2 2)).setCell { block := b3, off := 0 } (Value.slice ra3 2 2)).setCell { block := b3, off := 1 } (Value.slice ma3 2 2) = W3 at *
          have HN3 := Lib.hid (HN.out.low HU3.out)
          have HT3 := Lib.hid (HT2.out.low (by have := HB2.out.size; omega) HU3.out)
          have HBW := Lib.hid (HB2.out.trans (HU3.out.mono HB2.out.size))
          have HC1 := Lib.hid (two_m r0 r1 r2 r3 r4 r5)
          have HC2 := Lib.hid (two_m s0 s1 s2 s3 s4 s5)
          have HC3 := Lib.hid (two_m t0 t1 t2 t3 t4 t5)
          have HLI := Lib.hid (fun (e : Lib.join (lnp nL nG (mR r0 r1 r2 r3) (mM r4 r5)) [32] = Lib.join (lnp nL nG (mR s0 s1 s2 s3) (mM s4 s5)) [32]) => line_inj e)
          have HA3 := Lib.hid (HKS.out W3 HU3.out)
          have q1 := HP13.out.cell 0
          have q2 := HP13.out.cell 1
          have q3 := HP23.out.cell 0
          have q4 := HP23.out.cell 1
          have q5 := HP33.out.cell 0
          have q6 := HP33.out.cell 1
          simp only [List.getElem?_toArray, List.getElem?_cons_zero, List.getElem?_cons_succ] at q1 q2 q3 q4 q5 q6
          have HBXC := Lib.hid (boxes_keep HP13.out HP23.out HP33.out)
          clear HKS HA2 HBb2 HT2 HN HB0 HB2 HU3 hK HA3 HBX HP13 HP23 HP33
          generalize mR r0 r1 r2 r3 = R1 at *
          generalize mR s0 s1 s2 s3 = R2 at *
          generalize mR t0 t1 t2 t3 = R3 at *
          generalize mM r4 r5 = M1 at *
          generalize mM s4 s5 = M2 at *
          generalize mM t4 t5 = M3 at *
          have HLA := Lib.hid (fun w' hb => (less_two false HO1.out HO1.out HC1.out HC1.out (by rw [ordO_self]; rfl) w' hb))
          have HSA := Lib.hid (fun w' hb => (same_two true HO1.out HO1.out HC1.out HC1.out (by rw [ordO_self]; rfl) w' hb))
          have HX1 := Lib.hid (fun w' hb => (line_two HO1.out HN3.out HC1.out ⟨by have := HBW.out.size; omega, HT3.out⟩ w' hb))
          have HX2 := Lib.hid (fun w' hb => (line_two HO2.out HN3.out HC2.out ⟨by have := HBW.out.size; omega, HT3.out⟩ w' hb))
          obtain ⟨ab, ba, sm, h1, h2, h3, h4, h5, hcs⟩ := ord_three R1 R2 M1 M2 HLI.out
          have HAB := Lib.hid (fun w' hb => (less_two ab HO1.out HO2.out HC1.out HC2.out h1 w' hb))
          have HBA := Lib.hid (fun w' hb => (less_two ba HO2.out HO1.out HC2.out HC1.out h2 w' hb))
          have HSB := Lib.hid (fun w' hb => (same_two sm HO1.out HO2.out HC1.out HC2.out h3 w' hb))
          have HSC := Lib.hid (fun w' hb => (same_two sm HO2.out HO1.out HC2.out HC1.out h4 w' hb))
          generalize hT1 : bs (Lib.join (lnp nL nG R1 M1) [32]) = T1 at *
          generalize hT2 : bs (Lib.join (lnp nL nG R2 M2) [32]) = T2 at *
          have HY := Lib.hid (show ordO R1 M1 R2 M2 < 0 → ordO R2 M2 R3 M3 < 0 → ordO R1 M1 R3 M3 < 0 from ordO_trans)
          have HBC := Lib.hid (fun b hY w' hb => (less_two b HO2.out HO3.out HC2.out HC3.out hY w' hb))
          have HAC := Lib.hid (fun b hZ w' hb => (less_two b HO1.out HO3.out HC1.out HC3.out hZ w' hb))
          clear hT1 hT2 HLI HO1 HO2 HO3 HC1 HC2 HC3 HN3 HT3 h1 h2 h3 h4
          generalize ordO R1 M1 R2 M2 = XX at *
          generalize ordO R2 M2 R3 M3 = YY at *
          generalize ordO R1 M1 R3 M3 = ZZ at *
          have hk0 := HBXC.out W3 (Below.refl _ _)
          have hkD := HBXC.out W3.drew (Below.refl _ _).drew
          have hb0 : Below W3.heap.size W3 W3 := Below.refl _ _
          have hbD : Below W3.heap.size W3 W3.drew := (Below.refl _ _).drew
          rcases hcs with ⟨rfl, rfl, rfl, hxx⟩ | ⟨rfl, rfl, rfl⟩ | ⟨rfl, rfl, rfl⟩
          all_goals
            go_wp2_with fail
            go_region_held3 (fun w' => (w'.cell? ⟨b1, 0, none⟩ = some (.slice ra1 2 2) ∧ w'.cell? ⟨b1, 1, none⟩ = some (.slice ma1 2 2) ∧ w'.cell? ⟨b2, 0, none⟩ = some (.slice ra2 2 2) ∧ w'.cell? ⟨b2, 1, none⟩ = some (.slice ma2 2 2) ∧ w'.cell? ⟨b3, 0, none⟩ = some (.slice ra3 2 2) ∧ w'.cell? ⟨b3, 1, none⟩ = some (.slice ma3 2 2)))
              (first
                | with_reducible exact hk0
                | with_reducible exact hkD
                | with_reducible assumption
                | go_keep)
              (first
                | (go_at_call 26; (with_reducible refine (HLA.out _ (by assumption)).mono ?_); rintro e w9 ⟨rfl, hb9⟩; have hS9 := HBXC.out w9 hb9)
                | (go_at_call 24; (with_reducible refine (HSA.out _ (by assumption)).mono ?_); rintro e w9 ⟨rfl, hb9⟩; have hS9 := HBXC.out w9 hb9)
                | (go_at_call 24; (with_reducible refine (HSB.out _ (by assumption)).mono ?_); rintro e w9 ⟨rfl, hb9⟩; have hS9 := HBXC.out w9 hb9)
                | (go_at_call 24; (with_reducible refine (HSC.out _ (by assumption)).mono ?_); rintro e w9 ⟨rfl, hb9⟩; have hS9 := HBXC.out w9 hb9))
            all_goals
              have HB9 := Lib.hid hb9
              have hS10 := hS9
              clear hk0 hkD hb0 hbD q1 q2 q3 q4 q5 q6
              obtain ⟨q1, q2, q3, q4, q5, q6⟩ := hS10
              clear hS9 hb9
              go_wp2_with fail
              with_reducible refine (HAB.out _ HB9.out).mono ?_
              rintro e wa ⟨rfl, hbx⟩
              have HB10 := Lib.hid hbx
              clear q1 q2 q3 q4 q5 q6
              obtain ⟨q1, q2, q3, q4, q5, q6⟩ := HBXC.out wa hbx
              clear hbx HB9
              go_wp2_with fail
              with_reducible refine (HBA.out _ HB10.out).mono ?_
              rintro e wb ⟨rfl, hbx⟩
              have HB11 := Lib.hid hbx
              clear q1 q2 q3 q4 q5 q6
              obtain ⟨q1, q2, q3, q4, q5, q6⟩ := HBXC.out wb hbx
              clear hbx HB10
              go_wp2_with fail
              with_reducible refine (HSB.out _ HB11.out).mono ?_
              rintro e wc ⟨rfl, hbx⟩
              have HB12 := Lib.hid hbx
              clear q1 q2 q3 q4 q5 q6
              obtain ⟨q1, q2, q3, q4, q5, q6⟩ := HBXC.out wc hbx
              clear hbx HB11
              go_wp2_with fail
              with_reducible refine (HAB.out _ HB12.out).mono ?_
              rintro e wd ⟨rfl, hbx⟩
              have HB13 := Lib.hid hbx
              clear q1 q2 q3 q4 q5 q6
              obtain ⟨q1, q2, q3, q4, q5, q6⟩ := HBXC.out wd hbx
              clear hbx HB12
              go_wp2_with fail
          · cases hbc : decide (YY < 0)
            · clear HAC
              have HBCf := Lib.hid (HBC.out _ hbc)
              clear HBC
              with_reducible refine (HBCf.out _ HB13.out).mono ?_
              rintro e we ⟨rfl, hbx⟩
              have HB14 := Lib.hid hbx
              clear q1 q2 q3 q4 q5 q6
              obtain ⟨q1, q2, q3, q4, q5, q6⟩ := HBXC.out we hbx
              clear hbx HB13
              go_wp2_with fail
              have hbn := HB14.out
              have hbd := hbn.drew
              have hk0 := HBXC.out we hbn
              have hkD := HBXC.out we.drew hbd
              go_region_held3 (fun w' => (w'.cell? ⟨b1, 0, none⟩ = some (.slice ra1 2 2) ∧ w'.cell? ⟨b1, 1, none⟩ = some (.slice ma1 2 2) ∧ w'.cell? ⟨b2, 0, none⟩ = some (.slice ra2 2 2) ∧ w'.cell? ⟨b2, 1, none⟩ = some (.slice ma2 2 2) ∧ w'.cell? ⟨b3, 0, none⟩ = some (.slice ra3 2 2) ∧ w'.cell? ⟨b3, 1, none⟩ = some (.slice ma3 2 2)))
                (first
                  | with_reducible exact hk0
                  | with_reducible exact hkD
                  | with_reducible assumption
                  | go_keep)
                (first
                  | (go_at_call 27; (with_reducible refine (HX1.out _ (by assumption)).mono ?_); rintro e w9 ⟨rfl, hb9⟩; have hS9 := HBXC.out w9 hb9)
                  | (go_at_call 27; (with_reducible refine (HX2.out _ (by assumption)).mono ?_); rintro e w9 ⟨rfl, hb9⟩; have hS9 := HBXC.out w9 hb9)
                  | (go_at_call 24; (with_reducible refine (HSB.out _ (by assumption)).mono ?_); rintro e w9 ⟨rfl, hb9⟩; have hS9 := HBXC.out w9 hb9))
              all_goals
                have HB99 := Lib.hid hb9
                clear hk0 hkD hbn hbd hS9 hb9
                go_wp2_with fail
                go_ret
                exact ⟨rfl, HBW.out.trans (HB99.out.mono HBW.out.size)⟩
            · have hz := HY.out hxx (by simpa using hbc)
              have HBCf := Lib.hid (HBC.out _ hbc)
              have HACf := Lib.hid (HAC.out true (by simpa using hz))
              clear HBC HAC
              with_reducible refine (HBCf.out _ HB13.out).mono ?_
              rintro e we ⟨rfl, hbx⟩
              have HB14 := Lib.hid hbx
              clear q1 q2 q3 q4 q5 q6
              obtain ⟨q1, q2, q3, q4, q5, q6⟩ := HBXC.out we hbx
              clear hbx HB13
              go_wp2_with fail
              with_reducible refine (HACf.out _ HB14.out).mono ?_
              rintro e wf ⟨rfl, hbx⟩
              have HB15 := Lib.hid hbx
              clear q1 q2 q3 q4 q5 q6
              obtain ⟨q1, q2, q3, q4, q5, q6⟩ := HBXC.out wf hbx
              clear hbx HB14
              go_wp2_with fail
              have hbn := HB15.out
              have hbd := hbn.drew
              have hk0 := HBXC.out wf hbn
              have hkD := HBXC.out wf.drew hbd
              go_region_held3 (fun w' => (w'.cell? ⟨b1, 0, none⟩ = some (.slice ra1 2 2) ∧ w'.cell? ⟨b1, 1, none⟩ = some (.slice ma1 2 2) ∧ w'.cell? ⟨b2, 0, none⟩ = some (.slice ra2 2 2) ∧ w'.cell? ⟨b2, 1, none⟩ = some (.slice ma2 2 2) ∧ w'.cell? ⟨b3, 0, none⟩ = some (.slice ra3 2 2) ∧ w'.cell? ⟨b3, 1, none⟩ = some (.slice ma3 2 2)))
                (first
                  | with_reducible exact hk0
                  | with_reducible exact hkD
                  | with_reducible assumption
                  | go_keep)
                (first
                  | (go_at_call 27; (with_reducible refine (HX1.out _ (by assumption)).mono ?_); rintro e w9 ⟨rfl, hb9⟩; have hS9 := HBXC.out w9 hb9)
                  | (go_at_call 27; (with_reducible refine (HX2.out _ (by assumption)).mono ?_); rintro e w9 ⟨rfl, hb9⟩; have hS9 := HBXC.out w9 hb9)
                  | (go_at_call 24; (with_reducible refine (HSB.out _ (by assumption)).mono ?_); rintro e w9 ⟨rfl, hb9⟩; have hS9 := HBXC.out w9 hb9))
              all_goals
                have HB99 := Lib.hid hb9
                clear hk0 hkD hbn hbd hS9 hb9
                go_wp2_with fail
                go_ret
                exact ⟨rfl, HBW.out.trans (HB99.out.mono HBW.out.size)⟩
          · clear HBC HAC
            have hbn := HB13.out
            have hbd := hbn.drew
            have hk0 := HBXC.out wd hbn
            have hkD := HBXC.out wd.drew hbd
            go_region_held3 (fun w' => (w'.cell? ⟨b1, 0, none⟩ = some (.slice ra1 2 2) ∧ w'.cell? ⟨b1, 1, none⟩ = some (.slice ma1 2 2) ∧ w'.cell? ⟨b2, 0, none⟩ = some (.slice ra2 2 2) ∧ w'.cell? ⟨b2, 1, none⟩ = some (.slice ma2 2 2) ∧ w'.cell? ⟨b3, 0, none⟩ = some (.slice ra3 2 2) ∧ w'.cell? ⟨b3, 1, none⟩ = some (.slice ma3 2 2)))
              (first
                | with_reducible exact hk0
                | with_reducible exact hkD
                | with_reducible assumption
                | go_keep)
              (first
                | (go_at_call 27; (with_reducible refine (HX1.out _ (by assumption)).mono ?_); rintro e w9 ⟨rfl, hb9⟩; have hS9 := HBXC.out w9 hb9)
                | (go_at_call 27; (with_reducible refine (HX2.out _ (by assumption)).mono ?_); rintro e w9 ⟨rfl, hb9⟩; have hS9 := HBXC.out w9 hb9)
                | (go_at_call 24; (with_reducible refine (HSB.out _ (by assumption)).mono ?_); rintro e w9 ⟨rfl, hb9⟩; have hS9 := HBXC.out w9 hb9))
            all_goals
              have HB99 := Lib.hid hb9
              clear hk0 hkD hbn hbd hS9 hb9
              go_wp2_with fail
              go_ret
              exact ⟨rfl, HBW.out.trans (HB99.out.mono HBW.out.size)⟩
          · clear HBC HAC
            have hbn := HB13.out
            have hbd := hbn.drew
            have hk0 := HBXC.out wd hbn
            have hkD := HBXC.out wd.drew hbd
            go_region_held3 (fun w' => (w'.cell? ⟨b1, 0, none⟩ = some (.slice ra1 2 2) ∧ w'.cell? ⟨b1, 1, none⟩ = some (.slice ma1 2 2) ∧ w'.cell? ⟨b2, 0, none⟩ = some (.slice ra2 2 2) ∧ w'.cell? ⟨b2, 1, none⟩ = some (.slice ma2 2 2) ∧ w'.cell? ⟨b3, 0, none⟩ = some (.slice ra3 2 2) ∧ w'.cell? ⟨b3, 1, none⟩ = some (.slice ma3 2 2)))
              (first
                | with_reducible exact hk0
                | with_reducible exact hkD
                | with_reducible assumption
                | go_keep)
              (first
                | (go_at_call 27; (with_reducible refine (HX1.out _ (by assumption)).mono ?_); rintro e w9 ⟨rfl, hb9⟩; have hS9 := HBXC.out w9 hb9)
                | (go_at_call 27; (with_reducible refine (HX2.out _ (by assumption)).mono ?_); rintro e w9 ⟨rfl, hb9⟩; have hS9 := HBXC.out w9 hb9)
                | (go_at_call 24; (with_reducible refine (HSB.out _ (by assumption)).mono ?_); rintro e w9 ⟨rfl, hb9⟩; have hS9 := HBXC.out w9 hb9))
            all_goals
              have HB99 := Lib.hid hb9
              clear hk0 hkD hbn hbd hS9 hb9
              go_wp2_with fail
              go_ret
              exact ⟨rfl, HBW.out.trans (HB99.out.mono HBW.out.size)⟩
theorem postorder_law (r0 r1 r2 r3 r4 r5 s0 s1 s2 s3 s4 s5 t0 t1 t2 t3 t4 t5 : Nat) (w : World) (hr0 : r0 < 256) (hr1 : r1 < 256) (hr2 : r2 < 256) (hr3 : r3 < 256) (hr4 : r4 < 256) (hr5 : r5 < 256) (hs0 : s0 < 256) (hs1 : s1 < 256) (hs2 : s2 < 256) (hs3 : s3 < 256) (hs4 : s4 < 256) (hs5 : s5 < 256) (ht0 : t0 < 256) (ht1 : t1 < 256) (ht2 : t2 < 256) (ht3 : t3 < 256) (ht4 : t4 < 256) (ht5 : t5 < 256) (ht : Tp w.heap.size w) :
    Calls Tryd.prog 6 #[.agg #[.int .u8 (r0 : Nat), .int .u8 (r1 : Nat), .int .u8 (r2 : Nat), .int .u8 (r3 : Nat), .int .u8 (r4 : Nat), .int .u8 (r5 : Nat)], .agg #[.int .u8 (s0 : Nat), .int .u8 (s1 : Nat), .int .u8 (s2 : Nat), .int .u8 (s3 : Nat), .int .u8 (s4 : Nat), .int .u8 (s5 : Nat)], .agg #[.int .u8 (t0 : Nat), .int .u8 (t1 : Nat), .int .u8 (t2 : Nat), .int .u8 (t3 : Nat), .int .u8 (t4 : Nat), .int .u8 (t5 : Nat)]] w fun e w' => e = .returned (.bool true) ∧ Below w.heap.size w w' :=
  postorder_walk r0 r1 r2 r3 r4 r5 s0 s1 s2 s3 s4 s5 t0 t1 t2 t3 t4 t5 w ⟨⟨hr0, hr1, hr2, hr3, hr4, hr5⟩, ⟨hs0, hs1, hs2, hs3, hs4, hs5⟩, ⟨ht0, ht1, ht2, ht3, ht4, ht5⟩⟩ (Nat.le_refl _) ht
end Go.Proofs.YtchokfgffnomoaaDoor.Lx
