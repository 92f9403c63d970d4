/-
  What the statements' maker of conditions tells, as a contract.
-/
import Derived.Test.YtchokfgffnomoaaDoorPTOneW
import Derived.Test.YtchokfgffnomoaaDoorLBytes
namespace Go.Proofs.YtchokfgffnomoaaDoor.Lx
open Go.RowKit
open P (CO hd)
set_option maxRecDepth 100000
set_option linter.unusedVariables false
set_option linter.unusedSimpArgs false
theorem results_ct {P : Program} {fn : Func} {q p : Tmp} {ty : TypeId} (h : fn.results = #[.cell p ty, .tmp q]) (tmps : Array Value) (w : World) (v : Value) (g : Nat) (t : TypeId) (cs : Array Value) (fr : Nat × Nat) (d : TypeDesc)
    (hq : tmps.getD q undef = v) (hp : tmps.getD p undef = .pointer (some ⟨g, 0, none⟩)) (hg : w.heap[g]? = some (.cells cs t fr))
    (hu : P.underlying ty = some d) (hd : (match d with | .struct _ | .array _ _ => true | _ => false) = true) (hi : (P.info? ty).map (·.size) = some cs.size) :
    (results fn tmps).run P w = .ok (.tuple #[.agg cs, v]) w := by
  have hp' : tmps[p]?.getD undef = .pointer (some ⟨g, 0, none⟩) := by simpa using hp
  have hq' : tmps[q]?.getD undef = v := by simpa using hq
  simp [results, h, hp', hq', asAddr, run_loadVar_row w g t ty cs fr d hg hu hd hi]
/-- A slice of bytes, with its room. -/
def Bts (w : World) (a : Option Addr) (n c : Nat) (xs : List Nat) : Prop := IsBytes w a n xs ∧ n ≤ c ∧ c ≤ 4611686018427387904
theorem Bts.low {w w' : World} {a : Option Addr} {n c : Nat} {xs : List Nat} (h : Bts w a n c xs) (hb : Below w.heap.size w w') : Bts w' a n c xs := ⟨h.1.below hb, h.2⟩
/-- Whatever such outcome has it or not. -/
def OKC (d : Nat) (c : CO) : Prop := ∀ (RV : List (List Int)) (MV : List Int), RV.length = 2 → MV.length = 2 → (∀ i, i < 2 → (RV.getD i []).length = 2) → ∃ b, hd nL nG RV MV (d + 1) c = some b
theorem OKC.more {d : Nat} {c : CO} (h : OKC d c) : OKC (d + 1) c := fun RV MV h1 h2 h3 => by
  obtain ⟨b, hb⟩ := h RV MV h1 h2 h3
  exact ⟨b, P.hd_more _ _ _ hb⟩
theorem okc_mem (d j : Nat) (hj : j < 2) (n : Int) : OKC d (.mk 1 0 (nL.getD j []) n []) := fun RV MV _ h2 _ => ⟨_, hd_mem h2 hj n d⟩
theorem okc_reg (d i k : Nat) (hi : i < 2) (hk : k < 2) (n : Int) : OKC d (.mk 2 (i : Nat) ((nG.getD i []).getD k []) n []) := fun RV MV h1 _ h3 => ⟨_, hd_reg h1 hi hk (h3 i hi) n d⟩
theorem okc_not {d : Nat} {c : CO} (h : OKC d c) (t n : Int) (s : List UInt8) : OKC (d + 1) (.mk 3 t s n [c]) := fun RV MV h1 h2 h3 => by
  obtain ⟨b, hb⟩ := h RV MV h1 h2 h3
  exact ⟨!b, by rw [P.hd_not rfl, hb]; rfl⟩
theorem okc_two {d : Nat} {a c : CO} (h : OKC d a) (h' : OKC d c) (o t n : Int) (s : List UInt8) (ho : o = 4 ∨ o = 5) : OKC (d + 1) (.mk o t s n [a, c]) := fun RV MV h1 h2 h3 => by
  obtain ⟨b, hb⟩ := h RV MV h1 h2 h3
  obtain ⟨b', hb'⟩ := h' RV MV h1 h2 h3
  exact ⟨_, by rw [P.hd_two' ho, hb, hb']; rfl⟩
/-- What the maker tells. -/
def CondTo (d : Nat) (u w : World) (e : Ending) (w' : World) : Prop := ∃ (o t : Int) (S : ByteArray) (n : Int) (ka : Option Addr) (kl kc : Nat) (c : CO) (ra : Option Addr) (rn rc : Nat) (ys : List Nat), e = .returned (.tuple #[.agg #[.int .i64 o, .int .i64 t, .string S, .int .i64 n, .slice ka kl kc], .slice ra rn rc]) ∧ LC (fun g => w.heap.size < g) w' (.agg #[.int .i64 o, .int .i64 t, .string S, .int .i64 n, .slice ka kl kc]) c ∧ OKC d c ∧ Bts u ra rn rc ys ∧ Below w.heap.size w w'
theorem lc_leafQ (Q : Nat → Prop) (w : World) (o t n : Int) (s : List UInt8) (S : ByteArray) (hS : S = bs s) : LC Q w (.agg #[.int .i64 o, .int .i64 t, .string S, .int .i64 n, .slice none 0 0]) (.mk o t s n []) := by
  subst hS
  unfold LC
  exact ⟨none, 0, rfl, by decide, .inl rfl⟩
/-- What is left behind the first byte. -/
theorem bts_tail {w : World} {g off n c : Nat} {x : Nat} {xs : List Nat} (h : Bts w (some ⟨g, off, none⟩) n c (x :: xs)) : Bts w (some ⟨g, off + 1, none⟩) (n - 1) (c - 1) xs := by
  obtain ⟨⟨hl, hm, hw, hc⟩, h1, h2⟩ := h
  rw [List.length_cons] at hl
  refine ⟨⟨by omega, by omega, fun i => ?_, ?_⟩, by omega, by omega⟩
  · have := hw (i + 1)
    rwa [List.getD_cons_succ] at this
  · rcases hc with hc | ⟨b, o, hb, hc⟩
    · omega
    · cases hb
      refine .inr ⟨g, off + 1, rfl, fun i hi => ?_⟩
      have := hc (i + 1) (by omega)
      rw [List.getD_cons_succ] at this
      rw [show off + 1 + i = off + (i + 1) by omega]
      exact this
theorem bts_end {w : World} {a : Option Addr} {n c : Nat} {x : Nat} {xs : List Nat} (h : Bts w a n c (x :: xs)) (hc : c = 1) : xs = [] ∧ n = 1 := by
  obtain ⟨⟨hl, _⟩, h1, _⟩ := h
  rw [List.length_cons] at hl
  exact ⟨List.length_eq_zero_iff.1 (by omega), by omega⟩
theorem bts_nil (w : World) (a : Option Addr) : Bts w a 0 0 [] := ⟨⟨rfl, by decide, fun i => by simp, .inl rfl⟩, by decide, by decide⟩
set_option maxHeartbeats 1600000 in
theorem cond11_nil (d : Nat) (u w : World) (hbu : Below u.heap.size u w) (a : Option Addr) (n c : Nat) (h : Bts u a n c []) (z : Int) :
    Calls Tryd.prog 31 #[.slice a n c, .int .i64 z] w (CondTo d u w) := by
  obtain rfl : n = 0 := by have := h.1.1; simpa using this.symm
  have HBT := Lib.hid h
  clear h
  go_enter Tryd.func31, Tryd.ntmps31
  go_wp2_with fail
  refine bodyPost_ret (results_ct (q := 5) (p := 4) rfl _ _ _ w.heap.size 26 #[.int .i64 1, .int .i64 0, .string ⟨#[120]⟩, .int .i64 0, .slice none 0 0] (0, 0) _ rfl rfl (Blk.new w 26 _) Tryd.underlying26 rfl (by kernel_rfl)) rfl ?_
  exact ⟨_, _, _, _, _, _, _, _, _, _, _, [], rfl, lc_leafQ _ _ 1 0 _ (nL.getD 0 []) _ rfl, okc_mem d 0 (by decide) _, HBT.out, one_belowC w _⟩
set_option maxHeartbeats 12800000 in
theorem cond11_leafEZ (d : Nat) (u w : World) (hbu : Below u.heap.size u w) (g off n c : Nat) (x : Nat) (xs : List Nat) (hu : Bts u (some ⟨g, off, none⟩) n c (x :: xs)) (hc : c = 1) (hd : d = 0) (z : Int) (hz : z = (d : Nat)) :
    Calls Tryd.prog 31 #[.slice (some ⟨g, off, none⟩) n c, .int .i64 z] w (CondTo d u w) := by
  have h := hu.low hbu
  have hn : 0 < n := by have := h.1.1; rw [List.length_cons] at this; omega
  obtain ⟨b, o, hb, hcell⟩ := h.1.at hn
  cases hb
  have hx := hcell 0 hn
  have hcn := h.2.1
  have hcm := h.2.2
  rw [Nat.add_zero, List.getD_cons_zero] at hx
  have hx256 : x < 256 := h.1.2.2.1 0
  have hxa : ∀ o, (w.alloc o).cell? ⟨g, off, none⟩ = some (.int .u8 (x : Nat)) := fun o => ((one_belowC w o).cell (p := ⟨g, off, none⟩) (World.block_lt_of_cell? w _ hx)).trans hx
  obtain ⟨hxs, hn1⟩ := bts_end h hc
  subst hxs hc hn1
  obtain ⟨YS, hys⟩ : ∃ YS : List Nat, YS = [] := ⟨_, rfl⟩
  have HBT := Lib.hid (bts_nil u (some ⟨g, off, none⟩))
  rw [← hys] at HBT
  clear hys
  have hcz := Lib.hid hz
  have d1 : decide (0 < z) = false := decide_eq_false (by omega)
  clear hcell h hu hz hd
  have hk : (x % 2 = 0 ∧ x / 2 % 2 = 0) ∨ (x % 2 = 0 ∧ x / 2 % 2 = 1) ∨ (x % 2 = 1 ∧ x / 2 % 2 = 0 ∧ x / 4 % 2 = 0) ∨ (x % 2 = 1 ∧ x / 2 % 2 = 0 ∧ x / 4 % 2 = 1) ∨ (x % 2 = 1 ∧ x / 2 % 2 = 1 ∧ x / 4 % 2 = 0) ∨ (x % 2 = 1 ∧ x / 2 % 2 = 1 ∧ x / 4 % 2 = 1) := by omega
  rcases hk with hk | hk | hk | hk | hk | hk
  · have e3 : ((x : Nat) : Int) % 2 = 0 := by omega
    have e4 : ((x : Nat) : Int) / 2 % 2 = 0 := by omega
    clear hk
    go_enter Tryd.func31, Tryd.ntmps31
    go_wp2_with fail
    refine bodyPost_ret (results_ct (q := 5) (p := 4) rfl _ _ _ w.heap.size 26 #[.int .i64 1, .int .i64 0, .string ⟨#[120]⟩, .int .i64 (((x : Nat) : Int) / 4 % 3), .slice none 0 0] (0, 0) _ rfl rfl ((Blk.new w 26 #[.int .i64 1, .int .i64 0, .string ⟨#[120]⟩, .int .i64 (((x : Nat) : Int) / 4 % 3), .slice none 0 0]).alloc _) Tryd.underlying26 rfl (by kernel_rfl)) rfl ?_
    exact ⟨_, _, _, _, _, _, _, _, _, _, _, YS, rfl, lc_leafQ _ _ 1 0 _ (nL.getD 0 []) _ rfl, okc_mem d 0 (by decide) _, HBT.out, ((Below.refl _ _).alloc (Nat.le_refl _) _).alloc (by simp; try omega) _⟩
  · have e3 : ((x : Nat) : Int) % 2 = 0 := by omega
    have e4 : ((x : Nat) : Int) / 2 % 2 = 1 := by omega
    clear hk
    go_enter Tryd.func31, Tryd.ntmps31
    go_wp2_with fail
    refine bodyPost_ret (results_ct (q := 5) (p := 4) rfl _ _ _ w.heap.size 26 #[.int .i64 1, .int .i64 0, .string ⟨#[121]⟩, .int .i64 (((x : Nat) : Int) / 4 % 3), .slice none 0 0] (0, 0) _ rfl rfl ((Blk.new w 26 #[.int .i64 1, .int .i64 0, .string ⟨#[121]⟩, .int .i64 (((x : Nat) : Int) / 4 % 3), .slice none 0 0]).alloc _) Tryd.underlying26 rfl (by kernel_rfl)) rfl ?_
    exact ⟨_, _, _, _, _, _, _, _, _, _, _, YS, rfl, lc_leafQ _ _ 1 0 _ (nL.getD 1 []) _ rfl, okc_mem d 1 (by decide) _, HBT.out, ((Below.refl _ _).alloc (Nat.le_refl _) _).alloc (by simp; try omega) _⟩
  · have e3 : ((x : Nat) : Int) % 2 = 1 := by omega
    have e4 : ((x : Nat) : Int) / 2 % 2 = 0 := by omega
    have e5 : ((x : Nat) : Int) / 4 % 2 = 0 := by omega
    clear hk
    go_enter Tryd.func31, Tryd.ntmps31
    go_wp2_with fail
    refine bodyPost_ret (results_ct (q := 5) (p := 4) rfl _ _ _ w.heap.size 26 #[.int .i64 2, .int .i64 0, .string ⟨#[97]⟩, .int .i64 (((x : Nat) : Int) / 8 % 3), .slice none 0 0] (0, 0) _ rfl rfl ((((Blk.new w 26 #[.int .i64 2, .int .i64 0, .string ⟨#[97]⟩, .int .i64 (((x : Nat) : Int) / 8 % 3), .slice none 0 0]).alloc _).alloc _).alloc _) Tryd.underlying26 rfl (by kernel_rfl)) rfl ?_
    exact ⟨_, _, _, _, _, _, _, _, _, _, _, YS, rfl, lc_leafQ _ _ 2 0 _ ((nG.getD 0 []).getD 0 []) _ rfl, okc_reg d 0 0 (by decide) (by decide) _, HBT.out, ((((Below.refl _ _).alloc (Nat.le_refl _) _).alloc (by simp; try omega) _).alloc (by simp; try omega) _).alloc (by simp; try omega) _⟩
  · have e3 : ((x : Nat) : Int) % 2 = 1 := by omega
    have e4 : ((x : Nat) : Int) / 2 % 2 = 0 := by omega
    have e5 : ((x : Nat) : Int) / 4 % 2 = 1 := by omega
    clear hk
    go_enter Tryd.func31, Tryd.ntmps31
    go_wp2_with fail
    refine bodyPost_ret (results_ct (q := 5) (p := 4) rfl _ _ _ w.heap.size 26 #[.int .i64 2, .int .i64 0, .string ⟨#[98]⟩, .int .i64 (((x : Nat) : Int) / 8 % 3), .slice none 0 0] (0, 0) _ rfl rfl ((((Blk.new w 26 #[.int .i64 2, .int .i64 0, .string ⟨#[98]⟩, .int .i64 (((x : Nat) : Int) / 8 % 3), .slice none 0 0]).alloc _).alloc _).alloc _) Tryd.underlying26 rfl (by kernel_rfl)) rfl ?_
    exact ⟨_, _, _, _, _, _, _, _, _, _, _, YS, rfl, lc_leafQ _ _ 2 0 _ ((nG.getD 0 []).getD 1 []) _ rfl, okc_reg d 0 1 (by decide) (by decide) _, HBT.out, ((((Below.refl _ _).alloc (Nat.le_refl _) _).alloc (by simp; try omega) _).alloc (by simp; try omega) _).alloc (by simp; try omega) _⟩
  · have e3 : ((x : Nat) : Int) % 2 = 1 := by omega
    have e4 : ((x : Nat) : Int) / 2 % 2 = 1 := by omega
    have e5 : ((x : Nat) : Int) / 4 % 2 = 0 := by omega
    clear hk
    go_enter Tryd.func31, Tryd.ntmps31
    go_wp2_with fail
    refine bodyPost_ret (results_ct (q := 5) (p := 4) rfl _ _ _ w.heap.size 26 #[.int .i64 2, .int .i64 1, .string ⟨#[97]⟩, .int .i64 (((x : Nat) : Int) / 8 % 3), .slice none 0 0] (0, 0) _ rfl rfl ((((Blk.new w 26 #[.int .i64 2, .int .i64 1, .string ⟨#[97]⟩, .int .i64 (((x : Nat) : Int) / 8 % 3), .slice none 0 0]).alloc _).alloc _).alloc _) Tryd.underlying26 rfl (by kernel_rfl)) rfl ?_
    exact ⟨_, _, _, _, _, _, _, _, _, _, _, YS, rfl, lc_leafQ _ _ 2 1 _ ((nG.getD 1 []).getD 0 []) _ rfl, okc_reg d 1 0 (by decide) (by decide) _, HBT.out, ((((Below.refl _ _).alloc (Nat.le_refl _) _).alloc (by simp; try omega) _).alloc (by simp; try omega) _).alloc (by simp; try omega) _⟩
  · have e3 : ((x : Nat) : Int) % 2 = 1 := by omega
    have e4 : ((x : Nat) : Int) / 2 % 2 = 1 := by omega
    have e5 : ((x : Nat) : Int) / 4 % 2 = 1 := by omega
    clear hk
    go_enter Tryd.func31, Tryd.ntmps31
    go_wp2_with fail
    refine bodyPost_ret (results_ct (q := 5) (p := 4) rfl _ _ _ w.heap.size 26 #[.int .i64 2, .int .i64 1, .string ⟨#[99]⟩, .int .i64 (((x : Nat) : Int) / 8 % 3), .slice none 0 0] (0, 0) _ rfl rfl ((((Blk.new w 26 #[.int .i64 2, .int .i64 1, .string ⟨#[99]⟩, .int .i64 (((x : Nat) : Int) / 8 % 3), .slice none 0 0]).alloc _).alloc _).alloc _) Tryd.underlying26 rfl (by kernel_rfl)) rfl ?_
    exact ⟨_, _, _, _, _, _, _, _, _, _, _, YS, rfl, lc_leafQ _ _ 2 1 _ ((nG.getD 1 []).getD 1 []) _ rfl, okc_reg d 1 1 (by decide) (by decide) _, HBT.out, ((((Below.refl _ _).alloc (Nat.le_refl _) _).alloc (by simp; try omega) _).alloc (by simp; try omega) _).alloc (by simp; try omega) _⟩
set_option maxHeartbeats 12800000 in
theorem cond11_leafES (d : Nat) (u w : World) (hbu : Below u.heap.size u w) (g off n c : Nat) (x : Nat) (xs : List Nat) (hu : Bts u (some ⟨g, off, none⟩) n c (x :: xs)) (hc : c = 1) (hd : 0 < d ∧ x % 5 ≤ 1) (z : Int) (hz : z = (d : Nat)) :
    Calls Tryd.prog 31 #[.slice (some ⟨g, off, none⟩) n c, .int .i64 z] w (CondTo d u w) := by
  have h := hu.low hbu
  have hn : 0 < n := by have := h.1.1; rw [List.length_cons] at this; omega
  obtain ⟨b, o, hb, hcell⟩ := h.1.at hn
  cases hb
  have hx := hcell 0 hn
  have hcn := h.2.1
  have hcm := h.2.2
  rw [Nat.add_zero, List.getD_cons_zero] at hx
  have hx256 : x < 256 := h.1.2.2.1 0
  have hxa : ∀ o, (w.alloc o).cell? ⟨g, off, none⟩ = some (.int .u8 (x : Nat)) := fun o => ((one_belowC w o).cell (p := ⟨g, off, none⟩) (World.block_lt_of_cell? w _ hx)).trans hx
  obtain ⟨hxs, hn1⟩ := bts_end h hc
  subst hxs hc hn1
  obtain ⟨YS, hys⟩ : ∃ YS : List Nat, YS = [] := ⟨_, rfl⟩
  have HBT := Lib.hid (bts_nil u (some ⟨g, off, none⟩))
  rw [← hys] at HBT
  clear hys
  have hcz := Lib.hid hz
  have d1 : decide (0 < z) = true := decide_eq_true (by omega)
  have d2 : decide (1 < ((x : Nat) : Int) % 5) = false := decide_eq_false (by omega)
  clear hcell h hu hz hd
  have hk : (x % 2 = 0 ∧ x / 2 % 2 = 0) ∨ (x % 2 = 0 ∧ x / 2 % 2 = 1) ∨ (x % 2 = 1 ∧ x / 2 % 2 = 0 ∧ x / 4 % 2 = 0) ∨ (x % 2 = 1 ∧ x / 2 % 2 = 0 ∧ x / 4 % 2 = 1) ∨ (x % 2 = 1 ∧ x / 2 % 2 = 1 ∧ x / 4 % 2 = 0) ∨ (x % 2 = 1 ∧ x / 2 % 2 = 1 ∧ x / 4 % 2 = 1) := by omega
  rcases hk with hk | hk | hk | hk | hk | hk
  · have e3 : ((x : Nat) : Int) % 2 = 0 := by omega
    have e4 : ((x : Nat) : Int) / 2 % 2 = 0 := by omega
    clear hk
    go_enter Tryd.func31, Tryd.ntmps31
    go_wp2_with fail
    refine bodyPost_ret (results_ct (q := 5) (p := 4) rfl _ _ _ w.heap.size 26 #[.int .i64 1, .int .i64 0, .string ⟨#[120]⟩, .int .i64 (((x : Nat) : Int) / 4 % 3), .slice none 0 0] (0, 0) _ rfl rfl ((Blk.new w 26 #[.int .i64 1, .int .i64 0, .string ⟨#[120]⟩, .int .i64 (((x : Nat) : Int) / 4 % 3), .slice none 0 0]).alloc _) Tryd.underlying26 rfl (by kernel_rfl)) rfl ?_
    exact ⟨_, _, _, _, _, _, _, _, _, _, _, YS, rfl, lc_leafQ _ _ 1 0 _ (nL.getD 0 []) _ rfl, okc_mem d 0 (by decide) _, HBT.out, ((Below.refl _ _).alloc (Nat.le_refl _) _).alloc (by simp; try omega) _⟩
  · have e3 : ((x : Nat) : Int) % 2 = 0 := by omega
    have e4 : ((x : Nat) : Int) / 2 % 2 = 1 := by omega
    clear hk
    go_enter Tryd.func31, Tryd.ntmps31
    go_wp2_with fail
    refine bodyPost_ret (results_ct (q := 5) (p := 4) rfl _ _ _ w.heap.size 26 #[.int .i64 1, .int .i64 0, .string ⟨#[121]⟩, .int .i64 (((x : Nat) : Int) / 4 % 3), .slice none 0 0] (0, 0) _ rfl rfl ((Blk.new w 26 #[.int .i64 1, .int .i64 0, .string ⟨#[121]⟩, .int .i64 (((x : Nat) : Int) / 4 % 3), .slice none 0 0]).alloc _) Tryd.underlying26 rfl (by kernel_rfl)) rfl ?_
    exact ⟨_, _, _, _, _, _, _, _, _, _, _, YS, rfl, lc_leafQ _ _ 1 0 _ (nL.getD 1 []) _ rfl, okc_mem d 1 (by decide) _, HBT.out, ((Below.refl _ _).alloc (Nat.le_refl _) _).alloc (by simp; try omega) _⟩
  · have e3 : ((x : Nat) : Int) % 2 = 1 := by omega
    have e4 : ((x : Nat) : Int) / 2 % 2 = 0 := by omega
    have e5 : ((x : Nat) : Int) / 4 % 2 = 0 := by omega
    clear hk
    go_enter Tryd.func31, Tryd.ntmps31
    go_wp2_with fail
    refine bodyPost_ret (results_ct (q := 5) (p := 4) rfl _ _ _ w.heap.size 26 #[.int .i64 2, .int .i64 0, .string ⟨#[97]⟩, .int .i64 (((x : Nat) : Int) / 8 % 3), .slice none 0 0] (0, 0) _ rfl rfl ((((Blk.new w 26 #[.int .i64 2, .int .i64 0, .string ⟨#[97]⟩, .int .i64 (((x : Nat) : Int) / 8 % 3), .slice none 0 0]).alloc _).alloc _).alloc _) Tryd.underlying26 rfl (by kernel_rfl)) rfl ?_
    exact ⟨_, _, _, _, _, _, _, _, _, _, _, YS, rfl, lc_leafQ _ _ 2 0 _ ((nG.getD 0 []).getD 0 []) _ rfl, okc_reg d 0 0 (by decide) (by decide) _, HBT.out, ((((Below.refl _ _).alloc (Nat.le_refl _) _).alloc (by simp; try omega) _).alloc (by simp; try omega) _).alloc (by simp; try omega) _⟩
  · have e3 : ((x : Nat) : Int) % 2 = 1 := by omega
    have e4 : ((x : Nat) : Int) / 2 % 2 = 0 := by omega
    have e5 : ((x : Nat) : Int) / 4 % 2 = 1 := by omega
    clear hk
    go_enter Tryd.func31, Tryd.ntmps31
    go_wp2_with fail
    refine bodyPost_ret (results_ct (q := 5) (p := 4) rfl _ _ _ w.heap.size 26 #[.int .i64 2, .int .i64 0, .string ⟨#[98]⟩, .int .i64 (((x : Nat) : Int) / 8 % 3), .slice none 0 0] (0, 0) _ rfl rfl ((((Blk.new w 26 #[.int .i64 2, .int .i64 0, .string ⟨#[98]⟩, .int .i64 (((x : Nat) : Int) / 8 % 3), .slice none 0 0]).alloc _).alloc _).alloc _) Tryd.underlying26 rfl (by kernel_rfl)) rfl ?_
    exact ⟨_, _, _, _, _, _, _, _, _, _, _, YS, rfl, lc_leafQ _ _ 2 0 _ ((nG.getD 0 []).getD 1 []) _ rfl, okc_reg d 0 1 (by decide) (by decide) _, HBT.out, ((((Below.refl _ _).alloc (Nat.le_refl _) _).alloc (by simp; try omega) _).alloc (by simp; try omega) _).alloc (by simp; try omega) _⟩
  · have e3 : ((x : Nat) : Int) % 2 = 1 := by omega
    have e4 : ((x : Nat) : Int) / 2 % 2 = 1 := by omega
    have e5 : ((x : Nat) : Int) / 4 % 2 = 0 := by omega
    clear hk
    go_enter Tryd.func31, Tryd.ntmps31
    go_wp2_with fail
    refine bodyPost_ret (results_ct (q := 5) (p := 4) rfl _ _ _ w.heap.size 26 #[.int .i64 2, .int .i64 1, .string ⟨#[97]⟩, .int .i64 (((x : Nat) : Int) / 8 % 3), .slice none 0 0] (0, 0) _ rfl rfl ((((Blk.new w 26 #[.int .i64 2, .int .i64 1, .string ⟨#[97]⟩, .int .i64 (((x : Nat) : Int) / 8 % 3), .slice none 0 0]).alloc _).alloc _).alloc _) Tryd.underlying26 rfl (by kernel_rfl)) rfl ?_
    exact ⟨_, _, _, _, _, _, _, _, _, _, _, YS, rfl, lc_leafQ _ _ 2 1 _ ((nG.getD 1 []).getD 0 []) _ rfl, okc_reg d 1 0 (by decide) (by decide) _, HBT.out, ((((Below.refl _ _).alloc (Nat.le_refl _) _).alloc (by simp; try omega) _).alloc (by simp; try omega) _).alloc (by simp; try omega) _⟩
  · have e3 : ((x : Nat) : Int) % 2 = 1 := by omega
    have e4 : ((x : Nat) : Int) / 2 % 2 = 1 := by omega
    have e5 : ((x : Nat) : Int) / 4 % 2 = 1 := by omega
    clear hk
    go_enter Tryd.func31, Tryd.ntmps31
    go_wp2_with fail
    refine bodyPost_ret (results_ct (q := 5) (p := 4) rfl _ _ _ w.heap.size 26 #[.int .i64 2, .int .i64 1, .string ⟨#[99]⟩, .int .i64 (((x : Nat) : Int) / 8 % 3), .slice none 0 0] (0, 0) _ rfl rfl ((((Blk.new w 26 #[.int .i64 2, .int .i64 1, .string ⟨#[99]⟩, .int .i64 (((x : Nat) : Int) / 8 % 3), .slice none 0 0]).alloc _).alloc _).alloc _) Tryd.underlying26 rfl (by kernel_rfl)) rfl ?_
    exact ⟨_, _, _, _, _, _, _, _, _, _, _, YS, rfl, lc_leafQ _ _ 2 1 _ ((nG.getD 1 []).getD 1 []) _ rfl, okc_reg d 1 1 (by decide) (by decide) _, HBT.out, ((((Below.refl _ _).alloc (Nat.le_refl _) _).alloc (by simp; try omega) _).alloc (by simp; try omega) _).alloc (by simp; try omega) _⟩
set_option maxHeartbeats 12800000 in
theorem cond11_leafTZ (d : Nat) (u w : World) (hbu : Below u.heap.size u w) (g off n c : Nat) (x : Nat) (xs : List Nat) (hu : Bts u (some ⟨g, off, none⟩) n c (x :: xs)) (hc : ¬ c = 1) (hd : d = 0) (z : Int) (hz : z = (d : Nat)) :
    Calls Tryd.prog 31 #[.slice (some ⟨g, off, none⟩) n c, .int .i64 z] w (CondTo d u w) := by
  have h := hu.low hbu
  have hn : 0 < n := by have := h.1.1; rw [List.length_cons] at this; omega
  obtain ⟨b, o, hb, hcell⟩ := h.1.at hn
  cases hb
  have hx := hcell 0 hn
  have hcn := h.2.1
  have hcm := h.2.2
  rw [Nat.add_zero, List.getD_cons_zero] at hx
  have hx256 : x < 256 := h.1.2.2.1 0
  have hxa : ∀ o, (w.alloc o).cell? ⟨g, off, none⟩ = some (.int .u8 (x : Nat)) := fun o => ((one_belowC w o).cell (p := ⟨g, off, none⟩) (World.block_lt_of_cell? w _ hx)).trans hx
  obtain ⟨YS, hys⟩ : ∃ YS : List Nat, YS = xs := ⟨_, rfl⟩
  have HBT := Lib.hid (bts_tail hu)
  rw [← hys] at HBT
  clear hys
  have e1 : ((n : Int) == 0) = false := by simp; omega
  have e2 : (1 : Int) ≤ (n : Int) := by omega
  have hcz := Lib.hid hz
  have d1 : decide (0 < z) = false := decide_eq_false (by omega)
  clear hcell h hu hz hd
  have hk : (x % 2 = 0 ∧ x / 2 % 2 = 0) ∨ (x % 2 = 0 ∧ x / 2 % 2 = 1) ∨ (x % 2 = 1 ∧ x / 2 % 2 = 0 ∧ x / 4 % 2 = 0) ∨ (x % 2 = 1 ∧ x / 2 % 2 = 0 ∧ x / 4 % 2 = 1) ∨ (x % 2 = 1 ∧ x / 2 % 2 = 1 ∧ x / 4 % 2 = 0) ∨ (x % 2 = 1 ∧ x / 2 % 2 = 1 ∧ x / 4 % 2 = 1) := by omega
  rcases hk with hk | hk | hk | hk | hk | hk
  · have e3 : ((x : Nat) : Int) % 2 = 0 := by omega
    have e4 : ((x : Nat) : Int) / 2 % 2 = 0 := by omega
    clear hk
    go_enter Tryd.func31, Tryd.ntmps31
    go_wp2_with fail
    refine bodyPost_ret (results_ct (q := 5) (p := 4) rfl _ _ _ w.heap.size 26 #[.int .i64 1, .int .i64 0, .string ⟨#[120]⟩, .int .i64 (((x : Nat) : Int) / 4 % 3), .slice none 0 0] (0, 0) _ rfl rfl ((Blk.new w 26 #[.int .i64 1, .int .i64 0, .string ⟨#[120]⟩, .int .i64 (((x : Nat) : Int) / 4 % 3), .slice none 0 0]).alloc _) Tryd.underlying26 rfl (by kernel_rfl)) rfl ?_
    exact ⟨_, _, _, _, _, _, _, _, _, _, _, YS, rfl, lc_leafQ _ _ 1 0 _ (nL.getD 0 []) _ rfl, okc_mem d 0 (by decide) _, HBT.out, ((Below.refl _ _).alloc (Nat.le_refl _) _).alloc (by simp; try omega) _⟩
  · have e3 : ((x : Nat) : Int) % 2 = 0 := by omega
    have e4 : ((x : Nat) : Int) / 2 % 2 = 1 := by omega
    clear hk
    go_enter Tryd.func31, Tryd.ntmps31
    go_wp2_with fail
    refine bodyPost_ret (results_ct (q := 5) (p := 4) rfl _ _ _ w.heap.size 26 #[.int .i64 1, .int .i64 0, .string ⟨#[121]⟩, .int .i64 (((x : Nat) : Int) / 4 % 3), .slice none 0 0] (0, 0) _ rfl rfl ((Blk.new w 26 #[.int .i64 1, .int .i64 0, .string ⟨#[121]⟩, .int .i64 (((x : Nat) : Int) / 4 % 3), .slice none 0 0]).alloc _) Tryd.underlying26 rfl (by kernel_rfl)) rfl ?_
    exact ⟨_, _, _, _, _, _, _, _, _, _, _, YS, rfl, lc_leafQ _ _ 1 0 _ (nL.getD 1 []) _ rfl, okc_mem d 1 (by decide) _, HBT.out, ((Below.refl _ _).alloc (Nat.le_refl _) _).alloc (by simp; try omega) _⟩
  · have e3 : ((x : Nat) : Int) % 2 = 1 := by omega
    have e4 : ((x : Nat) : Int) / 2 % 2 = 0 := by omega
    have e5 : ((x : Nat) : Int) / 4 % 2 = 0 := by omega
    clear hk
    go_enter Tryd.func31, Tryd.ntmps31
    go_wp2_with fail
    refine bodyPost_ret (results_ct (q := 5) (p := 4) rfl _ _ _ w.heap.size 26 #[.int .i64 2, .int .i64 0, .string ⟨#[97]⟩, .int .i64 (((x : Nat) : Int) / 8 % 3), .slice none 0 0] (0, 0) _ rfl rfl ((((Blk.new w 26 #[.int .i64 2, .int .i64 0, .string ⟨#[97]⟩, .int .i64 (((x : Nat) : Int) / 8 % 3), .slice none 0 0]).alloc _).alloc _).alloc _) Tryd.underlying26 rfl (by kernel_rfl)) rfl ?_
    exact ⟨_, _, _, _, _, _, _, _, _, _, _, YS, rfl, lc_leafQ _ _ 2 0 _ ((nG.getD 0 []).getD 0 []) _ rfl, okc_reg d 0 0 (by decide) (by decide) _, HBT.out, ((((Below.refl _ _).alloc (Nat.le_refl _) _).alloc (by simp; try omega) _).alloc (by simp; try omega) _).alloc (by simp; try omega) _⟩
  · have e3 : ((x : Nat) : Int) % 2 = 1 := by omega
    have e4 : ((x : Nat) : Int) / 2 % 2 = 0 := by omega
    have e5 : ((x : Nat) : Int) / 4 % 2 = 1 := by omega
    clear hk
    go_enter Tryd.func31, Tryd.ntmps31
    go_wp2_with fail
    refine bodyPost_ret (results_ct (q := 5) (p := 4) rfl _ _ _ w.heap.size 26 #[.int .i64 2, .int .i64 0, .string ⟨#[98]⟩, .int .i64 (((x : Nat) : Int) / 8 % 3), .slice none 0 0] (0, 0) _ rfl rfl ((((Blk.new w 26 #[.int .i64 2, .int .i64 0, .string ⟨#[98]⟩, .int .i64 (((x : Nat) : Int) / 8 % 3), .slice none 0 0]).alloc _).alloc _).alloc _) Tryd.underlying26 rfl (by kernel_rfl)) rfl ?_
    exact ⟨_, _, _, _, _, _, _, _, _, _, _, YS, rfl, lc_leafQ _ _ 2 0 _ ((nG.getD 0 []).getD 1 []) _ rfl, okc_reg d 0 1 (by decide) (by decide) _, HBT.out, ((((Below.refl _ _).alloc (Nat.le_refl _) _).alloc (by simp; try omega) _).alloc (by simp; try omega) _).alloc (by simp; try omega) _⟩
  · have e3 : ((x : Nat) : Int) % 2 = 1 := by omega
    have e4 : ((x : Nat) : Int) / 2 % 2 = 1 := by omega
    have e5 : ((x : Nat) : Int) / 4 % 2 = 0 := by omega
    clear hk
    go_enter Tryd.func31, Tryd.ntmps31
    go_wp2_with fail
    refine bodyPost_ret (results_ct (q := 5) (p := 4) rfl _ _ _ w.heap.size 26 #[.int .i64 2, .int .i64 1, .string ⟨#[97]⟩, .int .i64 (((x : Nat) : Int) / 8 % 3), .slice none 0 0] (0, 0) _ rfl rfl ((((Blk.new w 26 #[.int .i64 2, .int .i64 1, .string ⟨#[97]⟩, .int .i64 (((x : Nat) : Int) / 8 % 3), .slice none 0 0]).alloc _).alloc _).alloc _) Tryd.underlying26 rfl (by kernel_rfl)) rfl ?_
    exact ⟨_, _, _, _, _, _, _, _, _, _, _, YS, rfl, lc_leafQ _ _ 2 1 _ ((nG.getD 1 []).getD 0 []) _ rfl, okc_reg d 1 0 (by decide) (by decide) _, HBT.out, ((((Below.refl _ _).alloc (Nat.le_refl _) _).alloc (by simp; try omega) _).alloc (by simp; try omega) _).alloc (by simp; try omega) _⟩
  · have e3 : ((x : Nat) : Int) % 2 = 1 := by omega
    have e4 : ((x : Nat) : Int) / 2 % 2 = 1 := by omega
    have e5 : ((x : Nat) : Int) / 4 % 2 = 1 := by omega
    clear hk
    go_enter Tryd.func31, Tryd.ntmps31
    go_wp2_with fail
    refine bodyPost_ret (results_ct (q := 5) (p := 4) rfl _ _ _ w.heap.size 26 #[.int .i64 2, .int .i64 1, .string ⟨#[99]⟩, .int .i64 (((x : Nat) : Int) / 8 % 3), .slice none 0 0] (0, 0) _ rfl rfl ((((Blk.new w 26 #[.int .i64 2, .int .i64 1, .string ⟨#[99]⟩, .int .i64 (((x : Nat) : Int) / 8 % 3), .slice none 0 0]).alloc _).alloc _).alloc _) Tryd.underlying26 rfl (by kernel_rfl)) rfl ?_
    exact ⟨_, _, _, _, _, _, _, _, _, _, _, YS, rfl, lc_leafQ _ _ 2 1 _ ((nG.getD 1 []).getD 1 []) _ rfl, okc_reg d 1 1 (by decide) (by decide) _, HBT.out, ((((Below.refl _ _).alloc (Nat.le_refl _) _).alloc (by simp; try omega) _).alloc (by simp; try omega) _).alloc (by simp; try omega) _⟩
set_option maxHeartbeats 12800000 in
theorem cond11_leafTS (d : Nat) (u w : World) (hbu : Below u.heap.size u w) (g off n c : Nat) (x : Nat) (xs : List Nat) (hu : Bts u (some ⟨g, off, none⟩) n c (x :: xs)) (hc : ¬ c = 1) (hd : 0 < d ∧ x % 5 ≤ 1) (z : Int) (hz : z = (d : Nat)) :
    Calls Tryd.prog 31 #[.slice (some ⟨g, off, none⟩) n c, .int .i64 z] w (CondTo d u w) := by
  have h := hu.low hbu
  have hn : 0 < n := by have := h.1.1; rw [List.length_cons] at this; omega
  obtain ⟨b, o, hb, hcell⟩ := h.1.at hn
  cases hb
  have hx := hcell 0 hn
  have hcn := h.2.1
  have hcm := h.2.2
  rw [Nat.add_zero, List.getD_cons_zero] at hx
  have hx256 : x < 256 := h.1.2.2.1 0
  have hxa : ∀ o, (w.alloc o).cell? ⟨g, off, none⟩ = some (.int .u8 (x : Nat)) := fun o => ((one_belowC w o).cell (p := ⟨g, off, none⟩) (World.block_lt_of_cell? w _ hx)).trans hx
  obtain ⟨YS, hys⟩ : ∃ YS : List Nat, YS = xs := ⟨_, rfl⟩
  have HBT := Lib.hid (bts_tail hu)
  rw [← hys] at HBT
  clear hys
  have e1 : ((n : Int) == 0) = false := by simp; omega
  have e2 : (1 : Int) ≤ (n : Int) := by omega
  have hcz := Lib.hid hz
  have d1 : decide (0 < z) = true := decide_eq_true (by omega)
  have d2 : decide (1 < ((x : Nat) : Int) % 5) = false := decide_eq_false (by omega)
  clear hcell h hu hz hd
  have hk : (x % 2 = 0 ∧ x / 2 % 2 = 0) ∨ (x % 2 = 0 ∧ x / 2 % 2 = 1) ∨ (x % 2 = 1 ∧ x / 2 % 2 = 0 ∧ x / 4 % 2 = 0) ∨ (x % 2 = 1 ∧ x / 2 % 2 = 0 ∧ x / 4 % 2 = 1) ∨ (x % 2 = 1 ∧ x / 2 % 2 = 1 ∧ x / 4 % 2 = 0) ∨ (x % 2 = 1 ∧ x / 2 % 2 = 1 ∧ x / 4 % 2 = 1) := by omega
  rcases hk with hk | hk | hk | hk | hk | hk
  · have e3 : ((x : Nat) : Int) % 2 = 0 := by omega
    have e4 : ((x : Nat) : Int) / 2 % 2 = 0 := by omega
    clear hk
    go_enter Tryd.func31, Tryd.ntmps31
    go_wp2_with fail
    refine bodyPost_ret (results_ct (q := 5) (p := 4) rfl _ _ _ w.heap.size 26 #[.int .i64 1, .int .i64 0, .string ⟨#[120]⟩, .int .i64 (((x : Nat) : Int) / 4 % 3), .slice none 0 0] (0, 0) _ rfl rfl ((Blk.new w 26 #[.int .i64 1, .int .i64 0, .string ⟨#[120]⟩, .int .i64 (((x : Nat) : Int) / 4 % 3), .slice none 0 0]).alloc _) Tryd.underlying26 rfl (by kernel_rfl)) rfl ?_
    exact ⟨_, _, _, _, _, _, _, _, _, _, _, YS, rfl, lc_leafQ _ _ 1 0 _ (nL.getD 0 []) _ rfl, okc_mem d 0 (by decide) _, HBT.out, ((Below.refl _ _).alloc (Nat.le_refl _) _).alloc (by simp; try omega) _⟩
  · have e3 : ((x : Nat) : Int) % 2 = 0 := by omega
    have e4 : ((x : Nat) : Int) / 2 % 2 = 1 := by omega
    clear hk
    go_enter Tryd.func31, Tryd.ntmps31
    go_wp2_with fail
    refine bodyPost_ret (results_ct (q := 5) (p := 4) rfl _ _ _ w.heap.size 26 #[.int .i64 1, .int .i64 0, .string ⟨#[121]⟩, .int .i64 (((x : Nat) : Int) / 4 % 3), .slice none 0 0] (0, 0) _ rfl rfl ((Blk.new w 26 #[.int .i64 1, .int .i64 0, .string ⟨#[121]⟩, .int .i64 (((x : Nat) : Int) / 4 % 3), .slice none 0 0]).alloc _) Tryd.underlying26 rfl (by kernel_rfl)) rfl ?_
    exact ⟨_, _, _, _, _, _, _, _, _, _, _, YS, rfl, lc_leafQ _ _ 1 0 _ (nL.getD 1 []) _ rfl, okc_mem d 1 (by decide) _, HBT.out, ((Below.refl _ _).alloc (Nat.le_refl _) _).alloc (by simp; try omega) _⟩
  · have e3 : ((x : Nat) : Int) % 2 = 1 := by omega
    have e4 : ((x : Nat) : Int) / 2 % 2 = 0 := by omega
    have e5 : ((x : Nat) : Int) / 4 % 2 = 0 := by omega
    clear hk
    go_enter Tryd.func31, Tryd.ntmps31
    go_wp2_with fail
    refine bodyPost_ret (results_ct (q := 5) (p := 4) rfl _ _ _ w.heap.size 26 #[.int .i64 2, .int .i64 0, .string ⟨#[97]⟩, .int .i64 (((x : Nat) : Int) / 8 % 3), .slice none 0 0] (0, 0) _ rfl rfl ((((Blk.new w 26 #[.int .i64 2, .int .i64 0, .string ⟨#[97]⟩, .int .i64 (((x : Nat) : Int) / 8 % 3), .slice none 0 0]).alloc _).alloc _).alloc _) Tryd.underlying26 rfl (by kernel_rfl)) rfl ?_
    exact ⟨_, _, _, _, _, _, _, _, _, _, _, YS, rfl, lc_leafQ _ _ 2 0 _ ((nG.getD 0 []).getD 0 []) _ rfl, okc_reg d 0 0 (by decide) (by decide) _, HBT.out, ((((Below.refl _ _).alloc (Nat.le_refl _) _).alloc (by simp; try omega) _).alloc (by simp; try omega) _).alloc (by simp; try omega) _⟩
  · have e3 : ((x : Nat) : Int) % 2 = 1 := by omega
    have e4 : ((x : Nat) : Int) / 2 % 2 = 0 := by omega
    have e5 : ((x : Nat) : Int) / 4 % 2 = 1 := by omega
    clear hk
    go_enter Tryd.func31, Tryd.ntmps31
    go_wp2_with fail
    refine bodyPost_ret (results_ct (q := 5) (p := 4) rfl _ _ _ w.heap.size 26 #[.int .i64 2, .int .i64 0, .string ⟨#[98]⟩, .int .i64 (((x : Nat) : Int) / 8 % 3), .slice none 0 0] (0, 0) _ rfl rfl ((((Blk.new w 26 #[.int .i64 2, .int .i64 0, .string ⟨#[98]⟩, .int .i64 (((x : Nat) : Int) / 8 % 3), .slice none 0 0]).alloc _).alloc _).alloc _) Tryd.underlying26 rfl (by kernel_rfl)) rfl ?_
    exact ⟨_, _, _, _, _, _, _, _, _, _, _, YS, rfl, lc_leafQ _ _ 2 0 _ ((nG.getD 0 []).getD 1 []) _ rfl, okc_reg d 0 1 (by decide) (by decide) _, HBT.out, ((((Below.refl _ _).alloc (Nat.le_refl _) _).alloc (by simp; try omega) _).alloc (by simp; try omega) _).alloc (by simp; try omega) _⟩
  · have e3 : ((x : Nat) : Int) % 2 = 1 := by omega
    have e4 : ((x : Nat) : Int) / 2 % 2 = 1 := by omega
    have e5 : ((x : Nat) : Int) / 4 % 2 = 0 := by omega
    clear hk
    go_enter Tryd.func31, Tryd.ntmps31
    go_wp2_with fail
    refine bodyPost_ret (results_ct (q := 5) (p := 4) rfl _ _ _ w.heap.size 26 #[.int .i64 2, .int .i64 1, .string ⟨#[97]⟩, .int .i64 (((x : Nat) : Int) / 8 % 3), .slice none 0 0] (0, 0) _ rfl rfl ((((Blk.new w 26 #[.int .i64 2, .int .i64 1, .string ⟨#[97]⟩, .int .i64 (((x : Nat) : Int) / 8 % 3), .slice none 0 0]).alloc _).alloc _).alloc _) Tryd.underlying26 rfl (by kernel_rfl)) rfl ?_
    exact ⟨_, _, _, _, _, _, _, _, _, _, _, YS, rfl, lc_leafQ _ _ 2 1 _ ((nG.getD 1 []).getD 0 []) _ rfl, okc_reg d 1 0 (by decide) (by decide) _, HBT.out, ((((Below.refl _ _).alloc (Nat.le_refl _) _).alloc (by simp; try omega) _).alloc (by simp; try omega) _).alloc (by simp; try omega) _⟩
  · have e3 : ((x : Nat) : Int) % 2 = 1 := by omega
    have e4 : ((x : Nat) : Int) / 2 % 2 = 1 := by omega
    have e5 : ((x : Nat) : Int) / 4 % 2 = 1 := by omega
    clear hk
    go_enter Tryd.func31, Tryd.ntmps31
    go_wp2_with fail
    refine bodyPost_ret (results_ct (q := 5) (p := 4) rfl _ _ _ w.heap.size 26 #[.int .i64 2, .int .i64 1, .string ⟨#[99]⟩, .int .i64 (((x : Nat) : Int) / 8 % 3), .slice none 0 0] (0, 0) _ rfl rfl ((((Blk.new w 26 #[.int .i64 2, .int .i64 1, .string ⟨#[99]⟩, .int .i64 (((x : Nat) : Int) / 8 % 3), .slice none 0 0]).alloc _).alloc _).alloc _) Tryd.underlying26 rfl (by kernel_rfl)) rfl ?_
    exact ⟨_, _, _, _, _, _, _, _, _, _, _, YS, rfl, lc_leafQ _ _ 2 1 _ ((nG.getD 1 []).getD 1 []) _ rfl, okc_reg d 1 1 (by decide) (by decide) _, HBT.out, ((((Below.refl _ _).alloc (Nat.le_refl _) _).alloc (by simp; try omega) _).alloc (by simp; try omega) _).alloc (by simp; try omega) _⟩
end Go.Proofs.YtchokfgffnomoaaDoor.Lx
