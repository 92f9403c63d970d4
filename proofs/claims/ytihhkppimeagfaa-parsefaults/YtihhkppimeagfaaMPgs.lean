/-
  What prog of a maker gathers: a program so far.
-/
import Derived.Test.YtihhkppimeagfaaMStmts
import Derived.Test.YtihhkppimeagfaaMCond
import Derived.Deep.RegionWith
import Derived.Deep.DeepCutAuto
namespace Go.Proofs.Ytihhkppimeagfaa.Lx
open Go.RowKit
open P (EX CO ST PG MI MT MC MP MSs locB regB)
set_option maxRecDepth 100000
set_option linter.unusedVariables false
set_option linter.unusedSimpArgs false
abbrev zp10 (nm : ByteArray) (vs : Int) (vi vt : Value) (ak : Int) : Array Value := #[.string nm, .int .i64 vs, vi, vt, .int .i64 ak, .int .i64 0, .int .i64 0, .string ⟨#[]⟩, .int .i64 0, .slice none 0 0]
def madeB : ByteArray := ⟨#[109, 97, 100, 101]⟩
/-- A program so far: its block, the lists that grow. -/
structure PgS (B M v k P SH : Nat) (ak : Int) (cs : List CE) (ls : List (List ST)) (rg : List (List (List UInt8))) (vi vt vg : Value) (w wr : World) : Prop where
  blk : Blk wr P 30 (zp10 madeB v vi vt ak)
  shp : Blk wr SH 63 #[.int .i64 (v : Nat), .int .i64 (k : Nat), .bool false, .bool false]
  ini : ∃ vals, wr.ownsRow w.heap.size 67 2 vi cs.length vals ∧ RowsV 2 agg LE (fun _ => False) wr vals cs
  thr : ∃ vals, wr.ownsRow w.heap.size 49 1 vt ls.length vals ∧ RowsV 1 hd1 IsSs (fun b => w.heap.size ≤ b ∧ vi.ownBlock ≠ some b ∧ vt.ownBlock ≠ some b ∧ vg.ownBlock ≠ some b ∧ P < b) wr vals ls
  reg : ∃ vals, wr.ownsRow w.heap.size 43 1 vg rg.length vals ∧ RowsV 1 hd1 Nms (fun b => w.heap.size ≤ b ∧ vi.ownBlock ≠ some b ∧ vt.ownBlock ≠ some b ∧ vg.ownBlock ≠ some b ∧ P < b) wr vals rg
  mkr : Mk B wr M
  only : Only (· = M) w wr
section
variable {B M v k P SH : Nat} {ak : Int} {cs : List CE} {ls : List (List ST)} {rg : List (List (List UInt8))} {vi vt vg : Value} {w wr w' : World}
theorem rowsLE {wr w' : World} {vals : List Value} {cs : List CE} (h : RowsV 2 agg LE (fun _ => False) wr vals cs) : RowsV 2 agg LE (fun _ => False) w' vals cs := RowsV.step 2 agg LE leStep (fun b hb _ => hb.elim) _ _ h
theorem PgS.keep (h : PgS B M v k P SH ak cs ls rg vi vt vg w wr) (hMB : M < B ∧ B ≤ w.heap.size) (hP : P ≠ M) (hSH : SH ≠ M) (ho : Only (· = M) wr w') (hm : Mk B w' M) : PgS B M v k P SH ak cs ls rg vi vt vg w w' := by
  obtain ⟨h1, h2, ⟨va, a1, a2⟩, ⟨vb, b1, b2⟩, ⟨vc, c1, c2⟩, h6, h7⟩ := h
  have hs := h7.size
  have key : ∀ {t : TypeId} {size n : Nat} {v : Value} {xs : List Value}, wr.ownsRow w.heap.size t size v n xs → w'.ownsRow w.heap.size t size v n xs := fun hx => own_only hx ho (fun b hb e => by have := (hx.lt b hb).1; omega)
  exact ⟨h1.only ho hP, h2.only ho hSH, ⟨va, key a1, rowsLE a2⟩, ⟨vb, key b1, RowsV.step 1 hd1 IsSs ssStep (fun b hb hl => ⟨hb, ho.block b hl (by omega)⟩) _ _ b2⟩, ⟨vc, key c1, RowsV.step 1 hd1 Nms nmsStep (fun b hb hl => ⟨hb, ho.block b hl (by omega)⟩) _ _ c2⟩, hm, h7.trans ho⟩
theorem PgS.below (h : PgS B M v k P SH ak cs ls rg vi vt vg w wr) (hMB : M < B ∧ B ≤ w.heap.size) (hP : P ≠ M) (hSH : SH ≠ M) (hb : Below wr.heap.size wr w') : PgS B M v k P SH ak cs ls rg vi vt vg w w' := h.keep hMB hP hSH (Only.of_below hb) (h.mkr.below hb)
/-- A location more. -/
theorem PgS.init (h : PgS B M v k P SH ak cs [] [] vi (.slice none 0 0) (.slice none 0 0) w wr) (hMB : M < B ∧ B ≤ w.heap.size) (hPb : w.heap.size ≤ P) (hSHb : w.heap.size ≤ SH) {vals : List Value} (hown : wr.ownsRow w.heap.size 67 2 vi cs.length vals) (hrows : RowsV 2 agg LE (fun _ => False) wr vals cs) {sl : List UInt8} {nu : Int} {o : Obj} {g2 cap n : Nat} {w5 : World} (hn : n = cs.length + 1)
    (hgr : (wr.alloc o).grownBy w5 vi.ownBlock) (how : w5.ownsRow w.heap.size 67 2 (.slice (some ⟨g2, 0, none⟩) n cap) n (vals ++ [.string (bs sl), .int .i64 nu])) (hat : vi.ownBlock = some g2 ∨ g2 = wr.heap.size + 1) :
    PgS B M v k P SH ak (cs ++ [(sl, nu)]) [] [] (.slice (some ⟨g2, 0, none⟩) n cap) (.slice none 0 0) (.slice none 0 0) w (w5.setCell ⟨P, 2, none⟩ (.slice (some ⟨g2, 0, none⟩) n cap)) := by
  subst hn
  have hs := h.only.size
  have hlo : ∀ k, vi.ownBlock = some k → w.heap.size ≤ k := fun k hk => (hown.lt k hk).1
  have hPo : vi.ownBlock ≠ some P := own_ne (t' := 30) hown h.blk (by decide)
  have hSo : vi.ownBlock ≠ some SH := own_ne (t' := 63) hown h.shp (by decide)
  have hPl := h.blk.lt
  have hO5 : Only (fun b => vi.ownBlock = some b) wr w5 := ((Only.refl _ wr).alloc o).grown' hgr (fun k hk => .inl hk)
  have hgP : g2 ≠ P := by
    rcases hat with h1 | h1
    · intro e
      subst e
      exact hPo h1
    · omega
  have hSP : SH ≠ P := fun e => by
    subst e
    have := h.blk.ne h.shp (by decide)
    exact this rfl
  have hb5 := h.blk.only hO5 hPo
  have hp : Only (fun b => b = P) w5 (w5.setCell ⟨P, 2, none⟩ (.slice (some ⟨g2, 0, none⟩) (cs.length + 1) cap)) := (Only.refl (fun b => b = P) w5).setCell (p := ⟨P, 2, none⟩) (.inl rfl) _
  refine ⟨hb5.set 2 _, (h.shp.only hO5 hSo).only hp hSP, ⟨vals ++ [.string (bs sl), .int .i64 nu], ?_, RowsV.snoc 2 agg LE (a := (sl, nu)) rfl rfl _ _ (rowsLE hrows)⟩, ⟨[], World.ownsRow_nil _ _ _ _, rfl⟩, ⟨[], World.ownsRow_nil _ _ _ _, rfl⟩, (h.mkr.only hO5 (fun g hg e => by have := hlo g e; omega)).only hp (fun g hg e => by omega), (h.only.then hO5 (fun b hb => .inr (hlo b hb))).then hp (fun b hb => .inr (by omega))⟩
  have h1 := own_only how hp (fun k hk e => by
    have e' : g2 = k := Option.some.inj hk
    omega)
  simpa using h1
end
/-- Blocks beside the program's own. -/
abbrev Fp (w : World) (vi vt vg : Value) (P : Nat) (b : Nat) : Prop := w.heap.size ≤ b ∧ vi.ownBlock ≠ some b ∧ vt.ownBlock ≠ some b ∧ vg.ownBlock ≠ some b ∧ P < b
section
variable {B M v k P SH : Nat} {ak : Int} {cs : List CE} {ls : List (List ST)} {rg : List (List (List UInt8))} {vi vt vg : Value} {w wr w' : World}
/-- A thread more. -/
theorem PgS.addT (h : PgS B M v k P SH ak cs ls rg vi vt vg w wr) (hMB : M < B ∧ B ≤ w.heap.size) (hPb : w.heap.size ≤ P) (hSHb : w.heap.size ≤ SH) {vals : List Value} (hown : wr.ownsRow w.heap.size 49 1 vt ls.length vals) (hrows : RowsV 1 hd1 IsSs (Fp w vi vt vg P) wr vals ls)
    {vl : Value} {l : List ST} {n0 : Nat} (hl : IsSs (From n0) wr vl l) (hn0 : w.heap.size ≤ n0) (hPn : P < n0) (f1 : ∀ b, vi.ownBlock = some b → b < n0) (f2 : ∀ b, vt.ownBlock = some b → b < n0) (f3 : ∀ b, vg.ownBlock = some b → b < n0)
    {o : Obj} {g2 cap n : Nat} {w5 : World} (hn : n = ls.length + 1)
    (hgr : (wr.alloc o).grownBy w5 vt.ownBlock) (how : w5.ownsRow w.heap.size 49 1 (.slice (some ⟨g2, 0, none⟩) n cap) n (vals ++ [vl])) (hat : vt.ownBlock = some g2 ∨ g2 = wr.heap.size + 1) :
    PgS B M v k P SH ak cs (ls ++ [l]) rg vi (.slice (some ⟨g2, 0, none⟩) n cap) vg w (w5.setCell ⟨P, 3, none⟩ (.slice (some ⟨g2, 0, none⟩) n cap)) ∧ Same (From n0) (Fp w vi (.slice (some ⟨g2, 0, none⟩) n cap) vg P) wr (w5.setCell ⟨P, 3, none⟩ (.slice (some ⟨g2, 0, none⟩) n cap)) := by
  subst hn
  obtain ⟨h1, h2, ⟨va, a1, a2⟩, h4, ⟨vc, c1, c2⟩, h6, h7⟩ := h
  have hs := h7.size
  have hlo : ∀ k, vt.ownBlock = some k → w.heap.size ≤ k := fun k hk => (hown.lt k hk).1
  have hPo : vt.ownBlock ≠ some P := own_ne (t' := 30) hown h1 (by decide)
  have hSo : vt.ownBlock ≠ some SH := own_ne (t' := 63) hown h2 (by decide)
  have hPi : vi.ownBlock ≠ some P := own_ne (t' := 30) a1 h1 (by decide)
  have hPg : vg.ownBlock ≠ some P := own_ne (t' := 30) c1 h1 (by decide)
  have hPl := h1.lt
  have hO5 : Only (fun b => vt.ownBlock = some b) wr w5 := ((Only.refl _ wr).alloc o).grown' hgr (fun k hk => .inl hk)
  have hgP : g2 ≠ P := by
    rcases hat with x | x
    · intro e
      subst e
      exact hPo x
    · omega
  have hSP : SH ≠ P := fun e => by
    subst e
    have := h1.ne h2 (by decide)
    exact this rfl
  have hp : Only (fun b => b = P) w5 (w5.setCell ⟨P, 3, none⟩ (.slice (some ⟨g2, 0, none⟩) (ls.length + 1) cap)) := (Only.refl (fun b => b = P) w5).setCell (p := ⟨P, 3, none⟩) (.inl rfl) _
  have hO : Only (fun b => vt.ownBlock = some b ∨ b = P) wr (w5.setCell ⟨P, 3, none⟩ (.slice (some ⟨g2, 0, none⟩) (ls.length + 1) cap)) := (Only.then (S := fun b => vt.ownBlock = some b ∨ b = P) (Only.refl _ wr) hO5 (fun b hb => .inl (.inl hb))).then hp (fun b hb => .inl (.inr hb))
  have hg : ∀ b, Fp w vi vt vg P b → b < wr.heap.size → Fp w vi (.slice (some ⟨g2, 0, none⟩) (ls.length + 1) cap) vg P b := by
    intro b ⟨b1, b2, b3, b4, b5⟩ hb
    refine ⟨b1, b2, fun e => ?_, b4, b5⟩
    have e' : g2 = b := Option.some.inj e
    subst e'
    rcases hat with x | x
    · exact b3 x
    · omega
  have hk : Same (Fp w vi vt vg P) (Fp w vi (.slice (some ⟨g2, 0, none⟩) (ls.length + 1) cap) vg P) wr (w5.setCell ⟨P, 3, none⟩ (.slice (some ⟨g2, 0, none⟩) (ls.length + 1) cap)) := fun b hb hb2 => ⟨hg b hb hb2, hO.block b hb2 (fun e => e.elim (fun e => hb.2.2.1 e) (fun e => by have := hb.2.2.2.2; omega))⟩
  have hfr : ∀ b, From n0 b → Fp w vi vt vg P b := fun b hb => by
    have hb' : n0 ≤ b := hb
    exact ⟨by omega, fun e => (by have := f1 b e; omega), fun e => (by have := f2 b e; omega), fun e => (by have := f3 b e; omega), by omega⟩
  have hl' : IsSs (Fp w vi vt vg P) wr vl l := hl.step (fun b hb hl => ⟨hfr b hb, rfl⟩)
  refine ⟨?_, fun b hb hb2 => hk b (hfr b hb) hb2⟩
  refine ⟨(h1.only hO5 hPo).set 3 _, (h2.only hO5 hSo).only hp hSP, ⟨va, own_only a1 hO (fun b hb e => e.elim (fun e => own_types hown a1 (by decide) b e hb) (fun e => hPi (by rw [hb, e]))), rowsLE a2⟩, ⟨vals ++ [vl], ?_, RowsV.snoc 1 hd1 IsSs (a := l) (cs := [vl]) rfl (hl'.step hk) _ _ (RowsV.step 1 hd1 IsSs ssStep hk _ _ hrows)⟩,
    ⟨vc, own_only c1 hO (fun b hb e => e.elim (fun e => own_types hown c1 (by decide) b e hb) (fun e => hPg (by rw [hb, e]))), RowsV.step 1 hd1 Nms nmsStep hk _ _ c2⟩, (h6.only hO5 (fun g hg e => by have := hlo g e; omega)).only hp (fun g hg e => by omega), (h7.then hO5 (fun b hb => .inr (hlo b hb))).then hp (fun b hb => .inr (by omega))⟩
  have h1 := own_only how hp (fun k hk e => by
    have e' : g2 = k := Option.some.inj hk
    omega)
  simpa using h1
/-- The names of a thread's registers more. -/
theorem PgS.addR (h : PgS B M v k P SH ak cs ls rg vi vt vg w wr) (hMB : M < B ∧ B ≤ w.heap.size) {vals : List Value} (hown : wr.ownsRow w.heap.size 43 1 vg rg.length vals) (hrows : RowsV 1 hd1 Nms (Fp w vi vt vg P) wr vals rg)
    {vl : Value} {l : List (List UInt8)} (hl : Nms (Fp w vi vt vg P) wr vl l)
    {o : Obj} {g2 cap n : Nat} {w5 : World} (hn : n = rg.length + 1)
    (hgr : (wr.alloc o).grownBy w5 vg.ownBlock) (how : w5.ownsRow w.heap.size 43 1 (.slice (some ⟨g2, 0, none⟩) n cap) n (vals ++ [vl])) (hat : vg.ownBlock = some g2 ∨ g2 = wr.heap.size + 1) :
    PgS B M v k P SH ak cs ls (rg ++ [l]) vi vt (.slice (some ⟨g2, 0, none⟩) n cap) w w5 := by
  subst hn
  obtain ⟨h1, h2, ⟨va, a1, a2⟩, ⟨vb, b1, b2⟩, h5, h6, h7⟩ := h
  have hs := h7.size
  have hlo : ∀ k, vg.ownBlock = some k → w.heap.size ≤ k := fun k hk => (hown.lt k hk).1
  have hPo : vg.ownBlock ≠ some P := own_ne (t' := 30) hown h1 (by decide)
  have hSo : vg.ownBlock ≠ some SH := own_ne (t' := 63) hown h2 (by decide)
  have hO : Only (fun b => vg.ownBlock = some b) wr w5 := ((Only.refl _ wr).alloc o).grown' hgr (fun k hk => .inl hk)
  have hg : ∀ b, Fp w vi vt vg P b → b < wr.heap.size → Fp w vi vt (.slice (some ⟨g2, 0, none⟩) (rg.length + 1) cap) P b := by
    intro b ⟨b1, b2, b3, b4, b5⟩ hb
    refine ⟨b1, b2, b3, fun e => ?_, b5⟩
    have e' : g2 = b := Option.some.inj e
    subst e'
    rcases hat with x | x
    · exact b4 x
    · omega
  have hk : Same (Fp w vi vt vg P) (Fp w vi vt (.slice (some ⟨g2, 0, none⟩) (rg.length + 1) cap) P) wr w5 := fun b hb hb2 => ⟨hg b hb hb2, hO.block b hb2 (fun e => hb.2.2.2.1 e)⟩
  refine ⟨h1.only hO hPo, h2.only hO hSo, ⟨va, own_only a1 hO (fun b hb e => own_types hown a1 (by decide) b e hb), rowsLE a2⟩, ⟨vb, own_only b1 hO (fun b hb e => own_types hown b1 (by decide) b e hb), RowsV.step 1 hd1 IsSs ssStep hk _ _ b2⟩, ⟨vals ++ [vl], ?_, RowsV.snoc 1 hd1 Nms (a := l) (cs := [vl]) rfl (nmsStep hk hl) _ _ (RowsV.step 1 hd1 Nms nmsStep hk _ _ hrows)⟩, h6.only hO (fun g hg e => by have := hlo g e; omega), h7.then hO (fun b hb => .inr (hlo b hb))⟩
  simpa using how
/-- The rows of names, as a condition asks for them. -/
theorem rgs_rows {Q : Nat → Prop} {wr : World} {g : Nat} : ∀ (rg : List (List (List UInt8))) (vals : List Value) (off : Nat), RowsV 1 hd1 Nms Q wr vals rg → (∀ j u, vals[j]? = some u → wr.cell? ⟨g, off + j, none⟩ = some u) → ∀ i, i < rg.length → ∃ u, wr.cell? ⟨g, off + i, none⟩ = some u ∧ Nms Q wr u (rg.getD i [])
  | [], vals, off, h, hc, i, hi => by simp at hi
  | r :: rg, vals, off, h, hc, i, hi => by
    obtain ⟨c1, rest, rfl, h1, h2, h3⟩ := h
    obtain ⟨u, rfl⟩ := List.length_eq_one_iff.1 h1
    rcases i with _ | i
    · exact ⟨u, hc 0 u (by simp), h2⟩
    · have := rgs_rows rg rest (off + 1) h3 (fun j u' hj => by
        have := hc (j + 1) u' (by simpa using hj)
        rwa [show off + (j + 1) = off + 1 + j by omega] at this) i (by simpa using hi)
      obtain ⟨u', p1, p2⟩ := this
      exact ⟨u', by rw [show off + (i + 1) = off + 1 + i by omega]; exact p1, by simpa using p2⟩
/-- The lists of a program so far lie in the world. -/
theorem PgS.owns (h : PgS B M v k P SH ak cs ls rg vi vt vg w wr) : (∀ b, vi.ownBlock = some b → b < wr.heap.size) ∧ (∀ b, vt.ownBlock = some b → b < wr.heap.size) ∧ (∀ b, vg.ownBlock = some b → b < wr.heap.size) := by
  obtain ⟨_, h1, _⟩ := h.ini
  obtain ⟨_, h2, _⟩ := h.thr
  obtain ⟨_, h3, _⟩ := h.reg
  exact ⟨fun b hb => (h1.lt b hb).2, fun b hb => (h2.lt b hb).2, fun b hb => (h3.lt b hb).2⟩
/-- The locations of a program so far. -/
theorem PgS.isEs (h : PgS B M v k P SH ak cs ls rg vi vt vg w wr) {R : Nat} {zs : Array Value} (hR : Blk wr R 30 zs) : IsEs (fun b => w.heap.size ≤ b ∧ b ≠ P ∧ b ≠ R) wr vi cs := by
  obtain ⟨vals, ho, hr⟩ := h.ini
  have hm := own_max ho
  by_cases h0 : cs = []
  · obtain ⟨a, c, rfl⟩ := slice_of_own ho
    exact ⟨a, c, rfl, hm, .inl h0⟩
  · obtain ⟨gl, cap, rfl, hgb, hgl⟩ := ho.form (by cases cs with
      | nil => exact absurd rfl h0
      | cons x xs => simp)
    exact ⟨_, cap, rfl, hm, .inr ⟨gl, 0, rfl, ⟨hgb, fun e => own_ne (t' := 30) ho h.blk (by decide) (by rw [← e]; rfl), fun e => own_ne (t' := 30) ho hR (by decide) (by rw [← e]; rfl)⟩, rowsE cs vals 0 hr (own_cells ho)⟩⟩
/-- The threads of a program so far. -/
theorem PgS.isTs (h : PgS B M v k P SH ak cs ls rg vi vt vg w wr) {R : Nat} {zs : Array Value} (hR : Blk wr R 30 zs) (hRP : R < P) : IsTs (fun b => w.heap.size ≤ b ∧ b ≠ P ∧ b ≠ R) wr vt ls := by
  obtain ⟨vals, ho, hr⟩ := h.thr
  have hm := own_max ho
  by_cases h0 : ls = []
  · obtain ⟨a, c, rfl⟩ := slice_of_own ho
    exact ⟨a, c, rfl, hm, .inl h0⟩
  · obtain ⟨gl, cap, rfl, hgb, hgl⟩ := ho.form (by cases ls with
      | nil => exact absurd rfl h0
      | cons x xs => simp)
    exact ⟨_, cap, rfl, hm, .inr ⟨gl, 0, rfl, ⟨hgb, fun e => own_ne (t' := 30) ho h.blk (by decide) (by rw [← e]; rfl), fun e => own_ne (t' := 30) ho hR (by decide) (by rw [← e]; rfl)⟩, LTs.mono (fun b hb _ => ⟨hb.1, by have := hb.2.2.2.2; omega, by have := hb.2.2.2.2; omega⟩) (rowsT ls vals 0 hr (own_cells ho))⟩⟩
/-- The names of a program's registers so far. -/
theorem PgS.rgs (h : PgS B M v k P SH ak cs ls rg vi vt vg w wr) : Rgs (fun b => w.heap.size ≤ b ∧ b < wr.heap.size) wr vg rg := by
  obtain ⟨vals, ho, hr⟩ := h.reg
  by_cases h0 : rg = []
  · obtain ⟨a, c, rfl⟩ := slice_of_own ho
    exact ⟨a, c, rfl, .inl h0⟩
  · obtain ⟨gl, cap, rfl, hgb, hgl⟩ := ho.form (by cases rg with
      | nil => exact absurd rfl h0
      | cons x xs => simp)
    refine ⟨_, cap, rfl, .inr ⟨gl, 0, rfl, ⟨hgb, hgl⟩, fun i hi => ?_⟩⟩
    obtain ⟨u, h1, h2⟩ := rgs_rows rg vals 0 hr (own_cells ho) i hi
    exact ⟨u, h1, h2.mono (fun b hb hl => ⟨hb.1, hl⟩)⟩
end
end Go.Proofs.Ytihhkppimeagfaa.Lx
