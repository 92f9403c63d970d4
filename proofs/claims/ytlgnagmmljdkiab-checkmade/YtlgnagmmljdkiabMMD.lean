/-
  What prog of a maker gathers: a program so far.
-/
import Derived.Test.YtlgnagmmljdkiabMStmts
import Derived.Test.YtlgnagmmljdkiabMCond
import Derived.Deep.RegionWith
import Derived.Deep.DeepCutAuto
namespace Go.Proofs.Ytlgnagmmljdkiab.Lx
open Go.RowKit
open P (EX CO ST PG MI MT MC MP MSs locB regB)
set_option maxRecDepth 100000
set_option linter.unusedVariables false
set_option linter.unusedSimpArgs false
abbrev zp10 (nm : ByteArray) (vs : Int) (vi vt : Value) (ak : Int) : Array Value := #[.string nm, .int .i64 vs, vi, vt, .int .i64 ak, .int .i64 0, .int .i64 0, .string ⟨#[]⟩, .int .i64 0, .slice none 0 0]
def madeB : ByteArray := ⟨#[109, 97, 100, 101]⟩
/-- A program so far: its block, the lists that grow. -/
structure PgS (B M v k P SH : Nat) (ak : Int) (cs : List CE) (ls : List (List ST)) (rg : List (List (List UInt8))) (vi vt vg : Value) (w wr : World) : Prop where
  blk : Blk wr P 30 (zp10 madeB v vi vt ak)
  shp : Blk wr SH 69 #[.int .i64 (v : Nat), .int .i64 (k : Nat), .bool false, .bool false]
  ini : ∃ vals, wr.ownsRow w.heap.size 39 2 vi cs.length vals ∧ RowsV 2 agg LE (fun _ => False) wr vals cs
  thr : ∃ vals, wr.ownsRow w.heap.size 42 1 vt ls.length vals ∧ RowsV 1 hd1 IsSs (fun b => w.heap.size ≤ b ∧ vi.ownBlock ≠ some b ∧ vt.ownBlock ≠ some b ∧ vg.ownBlock ≠ some b ∧ P < b) wr vals ls
  reg : ∃ vals, wr.ownsRow w.heap.size 52 1 vg rg.length vals ∧ RowsV 1 hd1 Nms (fun b => w.heap.size ≤ b ∧ vi.ownBlock ≠ some b ∧ vt.ownBlock ≠ some b ∧ vg.ownBlock ≠ some b ∧ P < b) wr vals rg
  mkr : Mk B wr M
  only : Only (· = M) w wr
section
variable {B M v k P SH : Nat} {ak : Int} {cs : List CE} {ls : List (List ST)} {rg : List (List (List UInt8))} {vi vt vg : Value} {w wr w' : World}
theorem rowsLE {wr w' : World} {vals : List Value} {cs : List CE} (h : RowsV 2 agg LE (fun _ => False) wr vals cs) : RowsV 2 agg LE (fun _ => False) w' vals cs := RowsV.step 2 agg LE leStep (fun b hb _ => hb.elim) _ _ h
theorem PgS.keep (h : PgS B M v k P SH ak cs ls rg vi vt vg w wr) (hMB : M < B ∧ B ≤ w.heap.size) (hP : P ≠ M) (hSH : SH ≠ M) (ho : Only (· = M) wr w') (hm : Mk B w' M) : PgS B M v k P SH ak cs ls rg vi vt vg w w' := by
  obtain ⟨h1, h2, ⟨va, a1, a2⟩, ⟨vb, b1, b2⟩, ⟨vc, c1, c2⟩, h6, h7⟩ := h
  have hs := h7.size
  have key : ∀ {t : TypeId} {size n : Nat} {v : Value} {xs : List Value}, wr.ownsRow w.heap.size t size v n xs → w'.ownsRow w.heap.size t size v n xs := fun hx => own_only hx ho (fun b hb e => by have := (hx.lt b hb).1; omega)
  exact ⟨h1.only ho hP, h2.only ho hSH, ⟨va, key a1, rowsLE a2⟩, ⟨vb, key b1, RowsV.step 1 hd1 IsSs ssStep (fun b hb hl => ⟨hb, ho.block b hl (by omega)⟩) _ _ b2⟩, ⟨vc, key c1, RowsV.step 1 hd1 Nms nmsStep (fun b hb hl => ⟨hb, ho.block b hl (by omega)⟩) _ _ c2⟩, hm, h7.trans ho⟩
theorem PgS.below (h : PgS B M v k P SH ak cs ls rg vi vt vg w wr) (hMB : M < B ∧ B ≤ w.heap.size) (hP : P ≠ M) (hSH : SH ≠ M) (hb : Below wr.heap.size wr w') : PgS B M v k P SH ak cs ls rg vi vt vg w w' := h.keep hMB hP hSH (Only.of_below hb) (h.mkr.below hb)
/-- A location more. -/
theorem PgS.init (h : PgS B M v k P SH ak cs [] [] vi (.slice none 0 0) (.slice none 0 0) w wr) (hMB : M < B ∧ B ≤ w.heap.size) (hPb : w.heap.size ≤ P) (hSHb : w.heap.size ≤ SH) {vals : List Value} (hown : wr.ownsRow w.heap.size 39 2 vi cs.length vals) (hrows : RowsV 2 agg LE (fun _ => False) wr vals cs) {sl : List UInt8} {nu : Int} {o : Obj} {g2 cap n : Nat} {w5 : World} (hn : n = cs.length + 1)
    (hgr : (wr.alloc o).grownBy w5 vi.ownBlock) (how : w5.ownsRow w.heap.size 39 2 (.slice (some ⟨g2, 0, none⟩) n cap) n (vals ++ [.string (bs sl), .int .i64 nu])) (hat : vi.ownBlock = some g2 ∨ g2 = wr.heap.size + 1) :
    PgS B M v k P SH ak (cs ++ [(sl, nu)]) [] [] (.slice (some ⟨g2, 0, none⟩) n cap) (.slice none 0 0) (.slice none 0 0) w (w5.setCell ⟨P, 2, none⟩ (.slice (some ⟨g2, 0, none⟩) n cap)) := by
  subst hn
  have hs := h.only.size
  have hlo : ∀ k, vi.ownBlock = some k → w.heap.size ≤ k := fun k hk => (hown.lt k hk).1
  have hPo : vi.ownBlock ≠ some P := own_ne (t' := 30) hown h.blk (by decide)
  have hSo : vi.ownBlock ≠ some SH := own_ne (t' := 69) hown h.shp (by decide)
  have hPl := h.blk.lt
  have hO5 : Only (fun b => vi.ownBlock = some b) wr w5 := ((Only.refl _ wr).alloc o).grown' hgr (fun k hk => .inl hk)
  have hgP : g2 ≠ P := by
    rcases hat with h1 | h1
    · intro e
      subst e
      exact hPo h1
    · omega
  have hSP : SH ≠ P := fun e => by
    subst e
    have := h.blk.ne h.shp (by decide)
    exact this rfl
  have hb5 := h.blk.only hO5 hPo
  have hp : Only (fun b => b = P) w5 (w5.setCell ⟨P, 2, none⟩ (.slice (some ⟨g2, 0, none⟩) (cs.length + 1) cap)) := (Only.refl (fun b => b = P) w5).setCell (p := ⟨P, 2, none⟩) (.inl rfl) _
  refine ⟨hb5.set 2 _, (h.shp.only hO5 hSo).only hp hSP, ⟨vals ++ [.string (bs sl), .int .i64 nu], ?_, RowsV.snoc 2 agg LE (a := (sl, nu)) rfl rfl _ _ (rowsLE hrows)⟩, ⟨[], World.ownsRow_nil _ _ _ _, rfl⟩, ⟨[], World.ownsRow_nil _ _ _ _, rfl⟩, (h.mkr.only hO5 (fun g hg e => by have := hlo g e; omega)).only hp (fun g hg e => by omega), (h.only.then hO5 (fun b hb => .inr (hlo b hb))).then hp (fun b hb => .inr (by omega))⟩
  have h1 := own_only how hp (fun k hk e => by
    have e' : g2 = k := Option.some.inj hk
    omega)
  simpa using h1
end
/-- Blocks beside the program's own. -/
abbrev Fp (w : World) (vi vt vg : Value) (P : Nat) (b : Nat) : Prop := w.heap.size ≤ b ∧ vi.ownBlock ≠ some b ∧ vt.ownBlock ≠ some b ∧ vg.ownBlock ≠ some b ∧ P < b
section
variable {B M v k P SH : Nat} {ak : Int} {cs : List CE} {ls : List (List ST)} {rg : List (List (List UInt8))} {vi vt vg : Value} {w wr w' : World}
/-- A thread more. -/
theorem PgS.addT (h : PgS B M v k P SH ak cs ls rg vi vt vg w wr) (hMB : M < B ∧ B ≤ w.heap.size) (hPb : w.heap.size ≤ P) (hSHb : w.heap.size ≤ SH) {vals : List Value} (hown : wr.ownsRow w.heap.size 42 1 vt ls.length vals) (hrows : RowsV 1 hd1 IsSs (Fp w vi vt vg P) wr vals ls)
    {vl : Value} {l : List ST} {n0 : Nat} (hl : IsSs (From n0) wr vl l) (hn0 : w.heap.size ≤ n0) (hPn : P < n0) (f1 : ∀ b, vi.ownBlock = some b → b < n0) (f2 : ∀ b, vt.ownBlock = some b → b < n0) (f3 : ∀ b, vg.ownBlock = some b → b < n0)
    {o : Obj} {g2 cap n : Nat} {w5 : World} (hn : n = ls.length + 1)
    (hgr : (wr.alloc o).grownBy w5 vt.ownBlock) (how : w5.ownsRow w.heap.size 42 1 (.slice (some ⟨g2, 0, none⟩) n cap) n (vals ++ [vl])) (hat : vt.ownBlock = some g2 ∨ g2 = wr.heap.size + 1) :
    PgS B M v k P SH ak cs (ls ++ [l]) rg vi (.slice (some ⟨g2, 0, none⟩) n cap) vg w (w5.setCell ⟨P, 3, none⟩ (.slice (some ⟨g2, 0, none⟩) n cap)) ∧ Same (From n0) (Fp w vi (.slice (some ⟨g2, 0, none⟩) n cap) vg P) wr (w5.setCell ⟨P, 3, none⟩ (.slice (some ⟨g2, 0, none⟩) n cap)) := by
  subst hn
  obtain ⟨h1, h2, ⟨va, a1, a2⟩, h4, ⟨vc, c1, c2⟩, h6, h7⟩ := h
  have hs := h7.size
  have hlo : ∀ k, vt.ownBlock = some k → w.heap.size ≤ k := fun k hk => (hown.lt k hk).1
  have hPo : vt.ownBlock ≠ some P := own_ne (t' := 30) hown h1 (by decide)
  have hSo : vt.ownBlock ≠ some SH := own_ne (t' := 69) hown h2 (by decide)
  have hPi : vi.ownBlock ≠ some P := own_ne (t' := 30) a1 h1 (by decide)
  have hPg : vg.ownBlock ≠ some P := own_ne (t' := 30) c1 h1 (by decide)
  have hPl := h1.lt
  have hO5 : Only (fun b => vt.ownBlock = some b) wr w5 := ((Only.refl _ wr).alloc o).grown' hgr (fun k hk => .inl hk)
  have hgP : g2 ≠ P := by
    rcases hat with x | x
    · intro e
      subst e
      exact hPo x
    · omega
  have hSP : SH ≠ P := fun e => by
    subst e
    have := h1.ne h2 (by decide)
    exact this rfl
  have hp : Only (fun b => b = P) w5 (w5.setCell ⟨P, 3, none⟩ (.slice (some ⟨g2, 0, none⟩) (ls.length + 1) cap)) := (Only.refl (fun b => b = P) w5).setCell (p := ⟨P, 3, none⟩) (.inl rfl) _
  have hO : Only (fun b => vt.ownBlock = some b ∨ b = P) wr (w5.setCell ⟨P, 3, none⟩ (.slice (some ⟨g2, 0, none⟩) (ls.length + 1) cap)) := (Only.then (S := fun b => vt.ownBlock = some b ∨ b = P) (Only.refl _ wr) hO5 (fun b hb => .inl (.inl hb))).then hp (fun b hb => .inl (.inr hb))
  have hg : ∀ b, Fp w vi vt vg P b → b < wr.heap.size → Fp w vi (.slice (some ⟨g2, 0, none⟩) (ls.length + 1) cap) vg P b := by
    intro b ⟨b1, b2, b3, b4, b5⟩ hb
    refine ⟨b1, b2, fun e => ?_, b4, b5⟩
    have e' : g2 = b := Option.some.inj e
    subst e'
    rcases hat with x | x
    · exact b3 x
    · omega
  have hk : Same (Fp w vi vt vg P) (Fp w vi (.slice (some ⟨g2, 0, none⟩) (ls.length + 1) cap) vg P) wr (w5.setCell ⟨P, 3, none⟩ (.slice (some ⟨g2, 0, none⟩) (ls.length + 1) cap)) := fun b hb hb2 => ⟨hg b hb hb2, hO.block b hb2 (fun e => e.elim (fun e => hb.2.2.1 e) (fun e => by have := hb.2.2.2.2; omega))⟩
  have hfr : ∀ b, From n0 b → Fp w vi vt vg P b := fun b hb => by
    have hb' : n0 ≤ b := hb
    exact ⟨by omega, fun e => (by have := f1 b e; omega), fun e => (by have := f2 b e; omega), fun e => (by have := f3 b e; omega), by omega⟩
  have hl' : IsSs (Fp w vi vt vg P) wr vl l := hl.step (fun b hb hl => ⟨hfr b hb, rfl⟩)
  refine ⟨?_, fun b hb hb2 => hk b (hfr b hb) hb2⟩
  refine ⟨(h1.only hO5 hPo).set 3 _, (h2.only hO5 hSo).only hp hSP, ⟨va, own_only a1 hO (fun b hb e => e.elim (fun e => own_types hown a1 (by decide) b e hb) (fun e => hPi (by rw [hb, e]))), rowsLE a2⟩, ⟨vals ++ [vl], ?_, RowsV.snoc 1 hd1 IsSs (a := l) (cs := [vl]) rfl (hl'.step hk) _ _ (RowsV.step 1 hd1 IsSs ssStep hk _ _ hrows)⟩,
    ⟨vc, own_only c1 hO (fun b hb e => e.elim (fun e => own_types hown c1 (by decide) b e hb) (fun e => hPg (by rw [hb, e]))), RowsV.step 1 hd1 Nms nmsStep hk _ _ c2⟩, (h6.only hO5 (fun g hg e => by have := hlo g e; omega)).only hp (fun g hg e => by omega), (h7.then hO5 (fun b hb => .inr (hlo b hb))).then hp (fun b hb => .inr (by omega))⟩
  have h1 := own_only how hp (fun k hk e => by
    have e' : g2 = k := Option.some.inj hk
    omega)
  simpa using h1
/-- The names of a thread's registers more. -/
theorem PgS.addR (h : PgS B M v k P SH ak cs ls rg vi vt vg w wr) (hMB : M < B ∧ B ≤ w.heap.size) {vals : List Value} (hown : wr.ownsRow w.heap.size 52 1 vg rg.length vals) (hrows : RowsV 1 hd1 Nms (Fp w vi vt vg P) wr vals rg)
    {vl : Value} {l : List (List UInt8)} (hl : Nms (Fp w vi vt vg P) wr vl l)
    {o : Obj} {g2 cap n : Nat} {w5 : World} (hn : n = rg.length + 1)
    (hgr : (wr.alloc o).grownBy w5 vg.ownBlock) (how : w5.ownsRow w.heap.size 52 1 (.slice (some ⟨g2, 0, none⟩) n cap) n (vals ++ [vl])) (hat : vg.ownBlock = some g2 ∨ g2 = wr.heap.size + 1) :
    PgS B M v k P SH ak cs ls (rg ++ [l]) vi vt (.slice (some ⟨g2, 0, none⟩) n cap) w w5 := by
  subst hn
  obtain ⟨h1, h2, ⟨va, a1, a2⟩, ⟨vb, b1, b2⟩, h5, h6, h7⟩ := h
  have hs := h7.size
  have hlo : ∀ k, vg.ownBlock = some k → w.heap.size ≤ k := fun k hk => (hown.lt k hk).1
  have hPo : vg.ownBlock ≠ some P := own_ne (t' := 30) hown h1 (by decide)
  have hSo : vg.ownBlock ≠ some SH := own_ne (t' := 69) hown h2 (by decide)
  have hO : Only (fun b => vg.ownBlock = some b) wr w5 := ((Only.refl _ wr).alloc o).grown' hgr (fun k hk => .inl hk)
  have hg : ∀ b, Fp w vi vt vg P b → b < wr.heap.size → Fp w vi vt (.slice (some ⟨g2, 0, none⟩) (rg.length + 1) cap) P b := by
    intro b ⟨b1, b2, b3, b4, b5⟩ hb
    refine ⟨b1, b2, b3, fun e => ?_, b5⟩
    have e' : g2 = b := Option.some.inj e
    subst e'
    rcases hat with x | x
    · exact b4 x
    · omega
  have hk : Same (Fp w vi vt vg P) (Fp w vi vt (.slice (some ⟨g2, 0, none⟩) (rg.length + 1) cap) P) wr w5 := fun b hb hb2 => ⟨hg b hb hb2, hO.block b hb2 (fun e => hb.2.2.2.1 e)⟩
  refine ⟨h1.only hO hPo, h2.only hO hSo, ⟨va, own_only a1 hO (fun b hb e => own_types hown a1 (by decide) b e hb), rowsLE a2⟩, ⟨vb, own_only b1 hO (fun b hb e => own_types hown b1 (by decide) b e hb), RowsV.step 1 hd1 IsSs ssStep hk _ _ b2⟩, ⟨vals ++ [vl], ?_, RowsV.snoc 1 hd1 Nms (a := l) (cs := [vl]) rfl (nmsStep hk hl) _ _ (RowsV.step 1 hd1 Nms nmsStep hk _ _ hrows)⟩, h6.only hO (fun g hg e => by have := hlo g e; omega), h7.then hO (fun b hb => .inr (hlo b hb))⟩
  simpa using how
/-- The rows of names, as a condition asks for them. -/
theorem rgs_rows {Q : Nat → Prop} {wr : World} {g : Nat} : ∀ (rg : List (List (List UInt8))) (vals : List Value) (off : Nat), RowsV 1 hd1 Nms Q wr vals rg → (∀ j u, vals[j]? = some u → wr.cell? ⟨g, off + j, none⟩ = some u) → ∀ i, i < rg.length → ∃ u, wr.cell? ⟨g, off + i, none⟩ = some u ∧ Nms Q wr u (rg.getD i [])
  | [], vals, off, h, hc, i, hi => by simp at hi
  | r :: rg, vals, off, h, hc, i, hi => by
    obtain ⟨c1, rest, rfl, h1, h2, h3⟩ := h
    obtain ⟨u, rfl⟩ := List.length_eq_one_iff.1 h1
    rcases i with _ | i
    · exact ⟨u, hc 0 u (by simp), h2⟩
    · have := rgs_rows rg rest (off + 1) h3 (fun j u' hj => by
        have := hc (j + 1) u' (by simpa using hj)
        rwa [show off + (j + 1) = off + 1 + j by omega] at this) i (by simpa using hi)
      obtain ⟨u', p1, p2⟩ := this
      exact ⟨u', by rw [show off + (i + 1) = off + 1 + i by omega]; exact p1, by simpa using p2⟩
/-- The lists of a program so far lie in the world. -/
theorem PgS.owns (h : PgS B M v k P SH ak cs ls rg vi vt vg w wr) : (∀ b, vi.ownBlock = some b → b < wr.heap.size) ∧ (∀ b, vt.ownBlock = some b → b < wr.heap.size) ∧ (∀ b, vg.ownBlock = some b → b < wr.heap.size) := by
  obtain ⟨_, h1, _⟩ := h.ini
  obtain ⟨_, h2, _⟩ := h.thr
  obtain ⟨_, h3, _⟩ := h.reg
  exact ⟨fun b hb => (h1.lt b hb).2, fun b hb => (h2.lt b hb).2, fun b hb => (h3.lt b hb).2⟩
/-- The locations of a program so far. -/
theorem PgS.isEs (h : PgS B M v k P SH ak cs ls rg vi vt vg w wr) {R : Nat} {zs : Array Value} (hR : Blk wr R 30 zs) : IsEs (fun b => w.heap.size ≤ b ∧ b ≠ P ∧ b ≠ R) wr vi cs := by
  obtain ⟨vals, ho, hr⟩ := h.ini
  have hm := own_max ho
  by_cases h0 : cs = []
  · obtain ⟨a, c, rfl⟩ := slice_of_own ho
    exact ⟨a, c, rfl, hm, .inl h0⟩
  · obtain ⟨gl, cap, rfl, hgb, hgl⟩ := ho.form (by cases cs with
      | nil => exact absurd rfl h0
      | cons x xs => simp)
    exact ⟨_, cap, rfl, hm, .inr ⟨gl, 0, rfl, ⟨hgb, fun e => own_ne (t' := 30) ho h.blk (by decide) (by rw [← e]; rfl), fun e => own_ne (t' := 30) ho hR (by decide) (by rw [← e]; rfl)⟩, rowsE cs vals 0 hr (own_cells ho)⟩⟩
/-- The threads of a program so far. -/
theorem PgS.isTs (h : PgS B M v k P SH ak cs ls rg vi vt vg w wr) {R : Nat} {zs : Array Value} (hR : Blk wr R 30 zs) (hRP : R < P) : IsTs (fun b => w.heap.size ≤ b ∧ b ≠ P ∧ b ≠ R) wr vt ls := by
  obtain ⟨vals, ho, hr⟩ := h.thr
  have hm := own_max ho
  by_cases h0 : ls = []
  · obtain ⟨a, c, rfl⟩ := slice_of_own ho
    exact ⟨a, c, rfl, hm, .inl h0⟩
  · obtain ⟨gl, cap, rfl, hgb, hgl⟩ := ho.form (by cases ls with
      | nil => exact absurd rfl h0
      | cons x xs => simp)
    exact ⟨_, cap, rfl, hm, .inr ⟨gl, 0, rfl, ⟨hgb, fun e => own_ne (t' := 30) ho h.blk (by decide) (by rw [← e]; rfl), fun e => own_ne (t' := 30) ho hR (by decide) (by rw [← e]; rfl)⟩, LTs.mono (fun b hb _ => ⟨hb.1, by have := hb.2.2.2.2; omega, by have := hb.2.2.2.2; omega⟩) (rowsT ls vals 0 hr (own_cells ho))⟩⟩
/-- The names of a program's registers so far. -/
theorem PgS.rgs (h : PgS B M v k P SH ak cs ls rg vi vt vg w wr) : Rgs (fun b => w.heap.size ≤ b ∧ b < wr.heap.size) wr vg rg := by
  obtain ⟨vals, ho, hr⟩ := h.reg
  by_cases h0 : rg = []
  · obtain ⟨a, c, rfl⟩ := slice_of_own ho
    exact ⟨a, c, rfl, .inl h0⟩
  · obtain ⟨gl, cap, rfl, hgb, hgl⟩ := ho.form (by cases rg with
      | nil => exact absurd rfl h0
      | cons x xs => simp)
    refine ⟨_, cap, rfl, .inr ⟨gl, 0, rfl, ⟨hgb, hgl⟩, fun i hi => ?_⟩⟩
    obtain ⟨u, h1, h2⟩ := rgs_rows rg vals 0 hr (own_cells ho) i hi
    exact ⟨u, h1, h2.mono (fun b hb hl => ⟨hb.1, hl⟩)⟩
end
end Go.Proofs.Ytlgnagmmljdkiab.Lx
/-
  What prog of a maker tells, as a contract: a program that is made.
-/
namespace Go.Proofs.Ytlgnagmmljdkiab.Lx
open Go.RowKit
open P (EX CO ST PG MI MT MC MP MSs locB regB)
set_option maxRecDepth 100000
set_option linter.unusedVariables false
set_option linter.unusedSimpArgs false
theorem Try.infoCell' : (Try.prog.info? 39).map (fun i => (i.zero, i.size, i.bytes)) = some (some (.agg #[.string ⟨#[]⟩, .int .i64 0]), 2, 24) := by kernel_rfl
theorem Try.infoNs : (Try.prog.info? 52).map (fun i => (i.zero, i.size, i.bytes)) = some (some (.slice none 0 0), 1, 24) := by kernel_rfl
/-- A program that is made is told. -/
def MpTo (B M v k t m d : Nat) (w : World) (e : Ending) (w' : World) : Prop := ∃ vp p, e = .returned vp ∧ LPg (From w.heap.size) w' vp p ∧ MP v k m d p ∧ p.threads.length = t ∧ Mk B w' M ∧ Only (· = M) w w'
/-- The program's first place. -/
def FirstR (B M v k R : Nat) (w : World) (c : Value) (wx : World) : Prop := ∃ P a : Nat, c = .pointer (some ⟨P, 0, none⟩) ∧ (a = 1 ∨ a = 2) ∧ PgS B M v k P w.heap.size a [] [] [] (.slice none 0 0) (.slice none 0 0) (.slice none 0 0) w wx ∧ Blk wx R 30 (zp10 ⟨#[]⟩ 0 (.slice none 0 0) (.slice none 0 0) 0) ∧ R < P
theorem first_a {B M v k R r : Nat} {w w1 : World} (hMB : M < B ∧ B ≤ w.heap.size) (hr : r < 2) (hR : R < w1.heap.size) (hO : Only (· = M) w w1) (hm : Mk B w1 M) (hS : Blk w1 w.heap.size 69 #[.int .i64 (v : Nat), .int .i64 (k : Nat), .bool false, .bool false]) (hRB : Blk w1 R 30 (zp10 ⟨#[]⟩ 0 (.slice none 0 0) (.slice none 0 0) 0)) :
    FirstR B M v k R w (.pointer (some ⟨w1.heap.size, 0, none⟩)) (w1.alloc (.cells #[.string ⟨#[109, 97, 100, 101]⟩, .int .i64 (v : Nat), .slice none 0 0, .slice none 0 0, .int .i64 ((1 + r : Nat) : Int), .int .i64 0, .int .i64 0, .string ⟨#[]⟩, .int .i64 0, .slice none 0 0] 30)) := by
  have hb : Below w1.heap.size w1 (w1.alloc (.cells #[.string ⟨#[109, 97, 100, 101]⟩, .int .i64 (v : Nat), .slice none 0 0, .slice none 0 0, .int .i64 ((1 + r : Nat) : Int), .int .i64 0, .int .i64 0, .string ⟨#[]⟩, .int .i64 0, .slice none 0 0] 30)) := (Below.refl _ _).alloc (Nat.le_refl _) _
  exact ⟨w1.heap.size, 1 + r, rfl, by omega, ⟨Blk.new w1 _ _, hS.live' hb, ⟨[], World.ownsRow_nil _ _ _ _, rfl⟩, ⟨[], World.ownsRow_nil _ _ _ _, rfl⟩, ⟨[], World.ownsRow_nil _ _ _ _, rfl⟩, hm.below hb, hO.trans (Only.of_below hb)⟩, hRB.live' hb, hR⟩
theorem first_b {B M v k R r P : Nat} {w w1 : World} (hMB : M < B ∧ B ≤ w.heap.size) (hr : r < 2) (hP : w.heap.size < P) (hR : R < P) (hO : Only (· = M) w w1) (hm : Mk B w1 M) (hS : Blk w1 w.heap.size 69 #[.int .i64 (v : Nat), .int .i64 (k : Nat), .bool false, .bool false]) (hRB : Blk w1 R 30 (zp10 ⟨#[]⟩ 0 (.slice none 0 0) (.slice none 0 0) 0)) (hPB : Blk w1 P 30 (zp10 ⟨#[]⟩ 0 (.slice none 0 0) (.slice none 0 0) 0)) :
    FirstR B M v k R w (.pointer (some ⟨P, 0, none⟩)) (put10w w1 P (.string ⟨#[109, 97, 100, 101]⟩) (.int .i64 (v : Nat)) (.slice none 0 0) (.slice none 0 0) (.int .i64 ((1 + r : Nat) : Int)) (.int .i64 0) (.int .i64 0) (.string ⟨#[]⟩) (.int .i64 0) (.slice none 0 0)) := by
  have hp : Only (fun b => b = P) w1 (put10w w1 P (.string ⟨#[109, 97, 100, 101]⟩) (.int .i64 (v : Nat)) (.slice none 0 0) (.slice none 0 0) (.int .i64 ((1 + r : Nat) : Int)) (.int .i64 0) (.int .i64 0) (.string ⟨#[]⟩) (.int .i64 0) (.slice none 0 0)) := Only.put10 (Only.refl (fun b => b = P) w1) (.inl rfl) _ _ _ _ _ _ _ _ _ _
  exact ⟨P, 1 + r, rfl, by omega, ⟨put10 hPB, hS.only hp (by omega), ⟨[], World.ownsRow_nil _ _ _ _, rfl⟩, ⟨[], World.ownsRow_nil _ _ _ _, rfl⟩, ⟨[], World.ownsRow_nil _ _ _ _, rfl⟩, hm.only hp (fun g hg e => by omega), hO.then hp (fun b hb => .inr (by omega))⟩, hRB.only hp (by omega), hR⟩
theorem first_b' {B M v k R r P : Nat} {w w1 : World} (hMB : M < B ∧ B ≤ w.heap.size) (hr : r < 2) (hP : w.heap.size < P) (hR : R < P) (hO : Only (· = M) w w1) (hm : Mk B w1 M) (hS : Blk w1 w.heap.size 69 #[.int .i64 (v : Nat), .int .i64 (k : Nat), .bool false, .bool false]) (hRB : Blk w1 R 30 (zp10 ⟨#[]⟩ 0 (.slice none 0 0) (.slice none 0 0) 0)) (hPB : Blk w1 P 30 (zp10 ⟨#[]⟩ 0 (.slice none 0 0) (.slice none 0 0) 0)) :
    FirstR B M v k R w (.pointer (some ⟨P, 0, none⟩)) ((((((((((w1.setCell ⟨P, 0, none⟩ (.string ⟨#[109, 97, 100, 101]⟩)).setCell ⟨P, 1, none⟩ (.int .i64 (v : Nat))).setCell ⟨P, 2, none⟩ (.slice none 0 0)).setCell ⟨P, 3, none⟩ (.slice none 0 0)).setCell ⟨P, 4, none⟩ (.int .i64 ((1 + r : Nat) : Int))).setCell ⟨P, 5, none⟩ (.int .i64 0)).setCell ⟨P, 6, none⟩ (.int .i64 0)).setCell ⟨P, 7, none⟩ (.string ⟨#[]⟩)).setCell ⟨P, 8, none⟩ (.int .i64 0)).setCell ⟨P, 9, none⟩ (.slice none 0 0)) := first_b hMB hr hP hR hO hm hS hRB hPB
/-- Behind a round: a location more. -/
def NextI (B M v k P R : Nat) (ak : Int) (cs : List CE) (j : Nat) (w wx : World) : Prop := ∃ (a : Option Addr) (n c : Nat) (x : Nat), x < v ∧ PgS B M v k P w.heap.size ak (cs ++ [([locB j], (x : Int))]) [] [] (.slice a n c) (.slice none 0 0) (.slice none 0 0) w wx ∧ Blk wx R 30 (zp10 ⟨#[]⟩ 0 (.slice none 0 0) (.slice none 0 0) 0)
theorem mi_snoc {v j x : Nat} {cs : List CE} (h : MI v cs) (hj : cs.length = j) (hx : x < v) : MI v (cs ++ [([locB j], (x : Int))]) := by
  intro i c hc
  by_cases hi : i < cs.length
  · rw [List.getElem?_append_left hi] at hc
    exact h i c hc
  · rw [List.getElem?_append_right (by omega)] at hc
    have e : i - cs.length = 0 := by
      rcases hd : i - cs.length with _ | q
      · rfl
      · rw [hd] at hc
        simp at hc
    rw [e] at hc
    have hij : i = j := by omega
    subst hij
    exact ⟨x, hx, (Option.some.inj hc).symm⟩
theorem al_keep {w : World} {SH : Nat} {ty : TypeId} {a b c d : Value} (h : Blk w SH ty #[a, b, c, d]) (o : Obj) : (w.alloc o).cell? ⟨SH, 0, none⟩ = some a := (h.alloc o).cell 0
theorem prog_done {B M v k t m d P R : Nat} {ak : Nat} {cs : List CE} {ls : List (List ST)} {rg : List (List (List UInt8))} {a a2 ka : Option Addr} {n c n2 c2 kn kc : Nat} {vg : Value} {w wr w3 wq : World} {co cm cu : Int} {cst : ByteArray} {x : CO} {zz : Array Value} (hMB : M < B ∧ B ≤ w.heap.size) (hP : w.heap.size ≤ P) (hwR : w.heap.size < R) (hRP : R < P) (hak : ak = 1 ∨ ak = 2)
    (h2 : PgS B M v k P w.heap.size ak cs ls rg (.slice a n c) (.slice a2 n2 c2) vg w wr) (h3 : PgS B M v k P w.heap.size ak cs ls rg (.slice a n c) (.slice a2 n2 c2) vg w w3) (hR : Blk w3 R 30 zz) (hp5 : Only (fun b => b = P) w3 wq) (hlc : LC (From wr.heap.size) w3 (.agg #[.int .i64 co, .int .i64 cm, .string cst, .int .i64 cu, .slice ka kn kc]) x)
    (hmi : MI v cs) (hcl : cs.length = k) (hmt : MT v k m d ls rg) (hmc : MC v k rg 2 x) (hll : ls.length = t) :
    MpTo B M v k t m d w (.returned (.agg #[.string madeB, .int .i64 (v : Nat), .slice a n c, .slice a2 n2 c2, .int .i64 (ak : Nat), .int .i64 co, .int .i64 cm, .string cst, .int .i64 cu, .slice ka kn kc])) (put10w wq R (.string madeB) (.int .i64 (v : Nat)) (.slice a n c) (.slice a2 n2 c2) (.int .i64 (ak : Nat)) (.int .i64 co) (.int .i64 cm) (.string cst) (.int .i64 cu) (.slice ka kn kc)) := by
  have hPl := h2.blk.lt
  have hq : Only (fun b => b = P ∨ b = R) w3 (put10w wq R (.string madeB) (.int .i64 (v : Nat)) (.slice a n c) (.slice a2 n2 c2) (.int .i64 (ak : Nat)) (.int .i64 co) (.int .i64 cm) (.string cst) (.int .i64 cu) (.slice ka kn kc)) := (Only.then (S := fun b => b = P ∨ b = R) (Only.refl _ w3) hp5 (fun b hb => .inl (.inl hb))).then (Only.put10 (Only.refl (fun b => b = R) wq) (.inl rfl) _ _ _ _ _ _ _ _ _ _) (fun b hb => .inl (.inr hb))
  have k1 : Same (fun b => w.heap.size ≤ b ∧ b ≠ P ∧ b ≠ R) (From w.heap.size) w3 (put10w wq R (.string madeB) (.int .i64 (v : Nat)) (.slice a n c) (.slice a2 n2 c2) (.int .i64 (ak : Nat)) (.int .i64 co) (.int .i64 cm) (.string cst) (.int .i64 cu) (.slice ka kn kc)) := fun b hb hl => ⟨hb.1, hq.block b hl (fun e => e.elim hb.2.1 hb.2.2)⟩
  have k2 : Same (From wr.heap.size) (From w.heap.size) w3 (put10w wq R (.string madeB) (.int .i64 (v : Nat)) (.slice a n c) (.slice a2 n2 c2) (.int .i64 (ak : Nat)) (.int .i64 co) (.int .i64 cm) (.string cst) (.int .i64 cu) (.slice ka kn kc)) := fun b hb hl => by
    have hb' : wr.heap.size ≤ b := hb
    exact ⟨by show w.heap.size ≤ b; omega, hq.block b hl (by omega)⟩
  exact ⟨_, ⟨[109, 97, 100, 101], (v : Int), cs, ls, (ak : Int), x⟩, rfl, ⟨_, _, _, _, _, _, _, _, _, rfl, IsEs.step k1 (h3.isEs hR), IsTs.step k1 (h3.isTs hR hRP), hlc.step k2⟩, ⟨rfl, rfl, hmi, hcl, ⟨ak, rfl, hak⟩, rg, hmt, hmc⟩, hll, h3.mkr.only hq (fun g hg e => by omega), h3.only.then hq (fun b hb => .inr (by omega))⟩
theorem mcond_at (B M v k : Nat) (hv1 : 1 ≤ v) (hv : v ≤ 9) (hk1 : 1 ≤ k) (hk4 : k ≤ 4) (rg : List (List (List UInt8))) (vr : Value) (Q : Nat → Prop) (hq : ∀ g, Q g → g ≠ M) (hl1 : 1 ≤ rg.length) (hl : rg.length ≤ 10) (hll : ∀ r ∈ rg, r.length ≤ 900) (d : Nat) (z : Int) (w : World) (hd : d ≤ 10) (hz : z = (d : Int)) (hm : Mk B w M) (hr : Rgs Q w vr rg) :
    Calls Try.prog 38 #[.pointer (some ⟨M, 0, none⟩), .agg #[.int .i64 (v : Nat), .int .i64 (k : Nat), .bool false, .bool false], vr, .int .i64 z] w (McTo B M v k rg d w) := by
  subst hz
  exact mcond_any B M v k hv1 hv hk1 hk4 rg vr Q hq hl1 hl hll d w hd hm hr
set_option maxHeartbeats 6400000 in
theorem mprog_any (B M v k t m d : Nat) (hv1 : 1 ≤ v) (hv : v ≤ 9) (hk1 : 1 ≤ k) (hk4 : k ≤ 4) (ht1 : 1 ≤ t) (ht4 : t ≤ 10) (hm : m ≤ 90) (hd : d ≤ 5) (w : World) (h : Mk B w M) :
    Calls Try.prog 24 #[.pointer (some ⟨M, 0, none⟩), .agg #[.int .i64 (v : Nat), .int .i64 (k : Nat), .bool false, .bool false], .int .i64 (t : Nat), .int .i64 (m : Nat), .int .i64 (d : Nat)] w (MpTo B M v k t m d w) := by
  have hMB := h.le
  have HM := Lib.hid h
  obtain ⟨i0, hi, hz0, hz1, hz2⟩ := info_parts Try.infoCell'
  have HI := Lib.hid hi
  have HZ0 := Lib.hid hz0
  have HZ1 := Lib.hid hz1
  have HZ2 := Lib.hid hz2
  obtain ⟨i1, hj, hj0, hj1, hj2⟩ := info_parts Try.infoSl
  obtain ⟨i2, hl, hl0, hl1, hl2⟩ := info_parts Try.infoNs
  have HJ := Lib.hid hj
  have HJ0 := Lib.hid hj0
  have HJ1 := Lib.hid hj1
  have HJ2 := Lib.hid hj2
  have HL := Lib.hid hl
  have HL0 := Lib.hid hl0
  have HL1 := Lib.hid hl1
  have HL2 := Lib.hid hl2
  clear h hi hz0 hz1 hz2 hj hj0 hj1 hj2 hl hl0 hl1 hl2
  go_enter Try.func24, Try.ntmps24
  go_wp2_with fail
  have hS0 := (Blk.new w 69 #[.int .i64 (v : Nat), .int .i64 (k : Nat), .bool false, .bool false]).alloc (.cells (zp10 ⟨#[]⟩ 0 (.slice none 0 0) (.slice none 0 0) 0) 30)
  have hR0 := Blk.new (w.alloc (.cells #[.int .i64 (v : Nat), .int .i64 (k : Nat), .bool false, .bool false] 69)) 30 (zp10 ⟨#[]⟩ 0 (.slice none 0 0) (.slice none 0 0) 0)
  rw [show (w.alloc (.cells #[.int .i64 (v : Nat), .int .i64 (k : Nat), .bool false, .bool false] 69)).heap.size = w.heap.size + 1 by simp] at hR0
  have hb0 : Below w.heap.size w ((w.alloc (.cells #[.int .i64 (v : Nat), .int .i64 (k : Nat), .bool false, .bool false] 69)).alloc (.cells (zp10 ⟨#[]⟩ 0 (.slice none 0 0) (.slice none 0 0) 0) 30)) := ((Below.refl _ _).alloc (Nat.le_refl _) _).alloc (by simp) _
  have HR0 := Lib.hid hR0
  have HS0 := Lib.hid hS0
  have HM0 := Lib.hid (HM.out.below hb0)
  have HO0 := Lib.hid (Only.of_below (S := (· = M)) hb0)
  have hs0 : w.heap.size + 1 < ((w.alloc (.cells #[.int .i64 (v : Nat), .int .i64 (k : Nat), .bool false, .bool false] 69)).alloc (.cells (zp10 ⟨#[]⟩ 0 (.slice none 0 0) (.slice none 0 0) 0) 30)).heap.size := hR0.lt
  clear hb0 hR0 hS0 HM
  generalize (w.alloc (.cells #[.int .i64 (v : Nat), .int .i64 (k : Nat), .bool false, .bool false] 69)).alloc (.cells (zp10 ⟨#[]⟩ 0 (.slice none 0 0) (.slice none 0 0) 0) 30) = w0 at *
  generalize hRR : w.heap.size + 1 = R at *
  have HRR := Lib.hid hRR
  have hwR : w.heap.size < R := by omega
  clear hRR
  have hbZ : Below w0.heap.size w0 (w0.alloc (.cells (zp10 ⟨#[]⟩ 0 (.slice none 0 0) (.slice none 0 0) 0) 30)).drew := ((Below.refl _ _).alloc (Nat.le_refl _) _).drew
  have HBZ := Lib.hid hbZ
  have HZP := Lib.hid (show Blk (w0.alloc (.cells (zp10 ⟨#[]⟩ 0 (.slice none 0 0) (.slice none 0 0) 0) 30)).drew w0.heap.size 30 (zp10 ⟨#[]⟩ 0 (.slice none 0 0) (.slice none 0 0) 0) from Blk.new w0 30 (zp10 ⟨#[]⟩ 0 (.slice none 0 0) (.slice none 0 0) 0))
  clear hbZ
  have HP1 := Lib.hid (pick_at B M 2 2 w0.drew HM0.out.drew (by omega) (by omega) rfl)
  have HP2 := Lib.hid (pick_at B M 2 2 (w0.alloc (.cells (zp10 ⟨#[]⟩ 0 (.slice none 0 0) (.slice none 0 0) 0) 30)).drew (HM0.out.below HBZ.out) (by omega) (by omega) rfl)
  have hSl : w.heap.size < w0.heap.size := by omega
  obtain ⟨s0, s1, s2, s3, _, _, _, _⟩ := four_free HS0.out
  go_upto_region 1 with (fail)
  go_cut [11] (fun c wx => FirstR B M v k R w c wx)
  case first =>
    --[
    go_region_with (first
      | (go_at_call 23; (with_reducible refine HP1.out.mono ?_); rintro e w1 ⟨r, rfl, hr, hm1, ho1⟩; have HO1 := Lib.hid ((Only.refl (· = M) w0).drew.trans ho1); have HM1 := Lib.hid hm1; have HR1 := Lib.hid (HR0.out.only HO1.out (by omega)); have HS1 := Lib.hid (HS0.out.only HO1.out (by omega)); obtain ⟨z0, z1, z2, z3, _, _, _, _⟩ := four_free HS1.out; have hs1 := HO1.out.size; have hl1 := HS1.out.lt; have HWR := Lib.hid (show IntKind.i64.wrap (1 + (r : Int)) = ((1 + r : Nat) : Int) by rw [IntWalk.i64_in _ (by omega)]; omega); clear hm1 ho1)
      | (go_at_call 23; (with_reducible refine HP2.out.mono ?_); rintro e w1 ⟨r, rfl, hr, hm1, ho1⟩; have HO1 := Lib.hid ((Only.of_below (S := (· = M)) HBZ.out).trans ho1); have HM1 := Lib.hid hm1; have HR1 := Lib.hid (HR0.out.only HO1.out (by omega)); have HS1 := Lib.hid (HS0.out.only HO1.out (by omega)); have HP7 := Lib.hid (HZP.out.only ho1 (by omega)); obtain ⟨z0, z1, z2, z3, _, _, _, _⟩ := four_free HS1.out; obtain ⟨⟨g0, g1, g2, g3, g4, g5, g6, g7, g8, g9⟩, ⟨h0, h1, h2, h3, h4, h5, h6, h7, h8, h9⟩⟩ := ten_free HP7.out; have hs1 := HO1.out.size; have hl1 := HS1.out.lt; have hlP := HP7.out.lt; have HWR := Lib.hid (show IntKind.i64.wrap (1 + (r : Int)) = ((1 + r : Nat) : Int) by rw [IntWalk.i64_in _ (by omega)]; omega); clear hm1 ho1))
    all_goals
      go_wp2_with fail
      go_meet
      case rel =>
        rw [HWR.out]
        first
          | with_reducible exact first_a hMB hr (by omega) (HO0.out.trans HO1.out) HM1.out HS1.out HR1.out
          | with_reducible exact first_b' hMB hr (by omega) (by omega) (HO0.out.trans HO1.out) HM1.out HS1.out HR1.out HP7.out
          | (trace_state; sorry)
    --]
  case rest =>
    obtain ⟨P, ak, rfl, hak, hpg, hRB, hRP⟩ := hcut
    have HPG := Lib.hid hpg
    have HRB := Lib.hid hRB
    clear hpg hRB HP1 HP2 HZP HBZ HR0 HS0 HM0 HO0 s0 s1 s2 s3
    go_wp2_with fail
    go_loopw [12] (fun iv wr => ∃ (j : Nat) (a : Option Addr) (n c : Nat) (cs : List CE), iv = .int .i64 j ∧ j ≤ k ∧ PgS B M v k P w.heap.size ak cs [] [] (.slice a n c) (.slice none 0 0) (.slice none 0 0) w wr ∧ Blk wr R 30 (zp10 ⟨#[]⟩ 0 (.slice none 0 0) (.slice none 0 0) 0) ∧ MI v cs ∧ cs.length = j) (fun iv _ => k - (intOf iv).toNat)
    case atStart => exact ⟨0, _, _, _, [], rfl, Nat.zero_le _, HPG.out, HRB.out, (fun i c hc => by simp at hc), rfl⟩
    case round =>
      obtain ⟨j, a, n, c, cs, rfl, hj, hpg, hrb, hmi, hcl⟩ := hrel
      have HPG := Lib.hid hpg
      have HRB := Lib.hid hrb
      have HMI := Lib.hid hmi
      have HCL := Lib.hid hcl
      have hswr := hpg.only.size
      obtain ⟨s0, s1, s2, s3, _, _, _, _⟩ := four_free hpg.shp
      clear hpg hrb hmi hcl
      by_cases hlt : j < k
      · --[
        obtain ⟨vals, hown, hrows⟩ := HPG.out.ini
        have HROWS := Lib.hid hrows
        have hcl4 : cs.length ≤ 3 := by have := HCL.out; omega
        obtain ⟨⟨g0, g1, g2, g3, g4, g5, g6, g7, g8, g9⟩, ⟨h0, h1, h2, h3, h4, h5, h6, h7, h8, h9⟩⟩ := ten_free HPG.out.blk
        have hPl := HPG.out.blk.lt
        have hSl := HPG.out.shp.lt
        have HOWN := Lib.hid hown
        have hPo : (Value.slice a n c).ownBlock ≠ some P := own_ne (t' := 30) hown HPG.out.blk (by decide)
        have HPO := Lib.hid hPo
        clear hown hrows hPo
        have HP1 := Lib.hid (pick_at B M v v wr.drew HPG.out.mkr.drew (by omega) (by omega) rfl)
        go_upto_region 5 with (fail)
        go_region_law (first
          | (refine step_append_lies _ (by rfl) (.tmp 30) (.tmp 42) 24 (by rfl) w.heap.size 39 i0 (.agg #[.string ⟨#[]⟩, .int .i64 0]) 2 24 Try.underlying24 HI.out HZ0.out HZ1.out HZ2.out rfl (by decide) _ cs.length vals (by rfl) (HOWN4.out.alloc _) ⟨w4.heap.size, 0, none⟩ 1 1 [.string (bs [locB j]), .int .i64 ((r3 : Int).tmod (IntKind.i64.wrap (1 + (r4 : Int))))] (by rfl) rfl (cells_new _ #[.string (bs [locB j]), .int .i64 ((r3 : Int).tmod (IntKind.i64.wrap (1 + (r4 : Int))))] _) (two_one _ _) (by omega) (by unfold maxLen; omega) (by omega) (by simp; omega) (w4.heap.size + 1) (by simp) ?_; intro g3 c3' w5 hown3 hgrow3 hat3 hlt3; have hB5 := (hgrow3.block P (by simp; omega) (fun e => HPO.out e.symm)).trans (HPG4.out.blk.alloc (.cells #[.string (bs [locB j]), .int .i64 ((r3 : Int).tmod (IntKind.i64.wrap (1 + (r4 : Int))))] 39)); have d2 : w5.cell? ⟨P, 2, none⟩ = some _ := Blk.cell hB5 2; have e2 : w5.frozen? ⟨P, 2, none⟩ = false := Blk.free hB5 2)
          | (go_simp; go_at_call 36; (with_reducible refine (loc_any j (by omega) _).mono ?_); rintro e w9 ⟨rfl, rfl⟩)
          | (go_simp; go_at_call 23; (with_reducible refine HP1.out.mono ?_); rintro e w3 ⟨r3, rfl, hr3, hm3, ho3⟩; have HO3 := Lib.hid ((Only.refl (· = M) wr).drew.trans ho3); have HM3 := Lib.hid hm3; have HPG3 := Lib.hid (HPG.out.keep hMB (by omega) (by omega) HO3.out hm3); obtain ⟨⟨g0, g1, g2', g3, g4, g5, g6, g7, g8, g9⟩, ⟨h0, h1, h2, h3, h4, h5, h6, h7, h8, h9⟩⟩ := ten_free HPG3.out.blk; obtain ⟨z0, z1, z2, z3, _, _, _, _⟩ := four_free HPG3.out.shp; clear hm3 ho3)
          | (go_simp; go_at_call 23; (with_reducible refine (pick_at B M 2 2 w3 HM3.out (by omega) (by omega) rfl).mono ?_); rintro e w4 ⟨r4, rfl, hr4, hm4, ho4⟩; have HO4 := Lib.hid (HO3.out.trans ho4); have HM4 := Lib.hid hm4; have HPG4 := Lib.hid (HPG.out.keep hMB (by omega) (by omega) HO4.out hm4); obtain ⟨⟨g0, g1, g2'', g3, g4, g5, g6, g7, g8, g9⟩, ⟨h0, h1, h2, h3, h4, h5, h6, h7, h8, h9⟩⟩ := ten_free HPG4.out.blk; obtain ⟨y0, y1, y2, y3, _, _, _, _⟩ := four_free HPG4.out.shp; have hl4 := HPG4.out.blk.lt; have hs4 := HPG4.out.only.size; have HOWN4 := Lib.hid (own_only HOWN.out HO4.out (fun b hb e => by have := (HOWN.out.lt b hb).1; omega)); have hwn : ¬ IntKind.i64.wrap (1 + (r4 : Int)) = 0 := (by rw [IntWalk.i64_in _ (by omega)]; omega); have HTM := Lib.hid (show ((r3 : Int).tmod (IntKind.i64.wrap (1 + (r4 : Int)))) = ((r3 % (1 + r4) : Nat) : Int) by rw [IntWalk.i64_in _ (by omega), show (1 + (r4 : Int)) = ((1 + r4 : Nat) : Int) by omega]; rfl); clear hm4 ho4)
          | (trace_state; fail))
        all_goals
          go_wp2_with fail
          go_roundw
          case rel =>
            have hpg5 := PgS.init HPG4.out hMB (by omega) (Nat.le_refl _) HOWN4.out (rowsLE HROWS.out) (n := cs.length + 1) rfl hgrow3 (sl := [locB j]) (nu := ((r3 % (1 + r4) : Nat) : Int)) (by rw [← HTM.out]; exact hown3) hat3
            have hrb4 := HRB.out.only HO4.out (by omega)
            have hrb5 := (hrb4.only ((((Only.refl (fun b => (Value.slice a n c).ownBlock = some b) w4).alloc _).grown' hgrow3 (fun k hk => .inl hk))) (own_ne (t' := 30) HOWN4.out hrb4 (by decide))).only (only_set w5 P 2 (.slice (some ⟨g3, 0, none⟩) (cs.length + 1) c3')) (by omega)
            exact ⟨j + 1, _, _, _, _, by go_num, by omega, hpg5, hrb5, mi_snoc HMI.out HCL.out (Nat.lt_of_le_of_lt (Nat.mod_le _ _) hr3), by simp [HCL.out]⟩
          case measure => simp [intOf]; omega
        --]
      · obtain rfl : k = j := by omega
        clear hlt hj
        go_wp2_with fail
        clear s0 s1 s2 s3
        go_loopw [13, 14] (fun gv iv wr => ∃ (s : Nat) (a2 : Option Addr) (n2 c2 : Nat) (a3 : Option Addr) (n3 c3 : Nat) (ls : List (List ST)) (rg : List (List (List UInt8))), gv = .slice a3 n3 c3 ∧ iv = .int .i64 s ∧ s ≤ t ∧ PgS B M v k P w.heap.size ak cs ls rg (.slice a n c) (.slice a2 n2 c2) (.slice a3 n3 c3) w wr ∧ Blk wr R 30 (zp10 ⟨#[]⟩ 0 (.slice none 0 0) (.slice none 0 0) 0) ∧ MT v k m d ls rg ∧ ls.length = s ∧ rg.length = s ∧ ∀ r ∈ rg, r.length ≤ 100) (fun _ iv _ => t - (intOf iv).toNat)
        case atStart => exact ⟨0, _, _, _, _, _, _, [], [], rfl, rfl, Nat.zero_le _, HPG.out, HRB.out, .nil, rfl, rfl, fun r hr => by cases hr⟩
        case round =>
          obtain ⟨s, a2, n2, c2, a3, n3, c3, ls, rg, rfl, rfl, hs, hpg, hrb, hmt, hll, hrl, hrr⟩ := hrel
          have HP2 := Lib.hid hpg
          have HB2 := Lib.hid hrb
          have HMT := Lib.hid hmt
          have HLL := Lib.hid hll
          have HRL := Lib.hid hrl
          have HRR2 := Lib.hid hrr
          have hswr := hpg.only.size
          clear hpg hrb hmt hll hrl hrr
          by_cases hlt : s < t
          · --[
            have hls4 : ls.length ≤ 10 := by have := HLL.out; omega
            have hrg4 : rg.length ≤ 10 := by have := HRL.out; omega
            obtain ⟨s0, s1, s2, s3, _, _, _, _⟩ := four_free HP2.out.shp
            have hPl := HP2.out.blk.lt
            have hSl := HP2.out.shp.lt
            have HPK := Lib.hid (fun (z : Int) (hz : z = ((m + 1 : Nat) : Int)) => pick_at B M (m + 1) z wr.drew HP2.out.mkr.drew (by omega) (by omega) hz)
            have HZM := Lib.hid (show IntKind.i64.wrap ((m : Int) + 1) = ((m + 1 : Nat) : Int) by rw [IntWalk.i64_in _ (by omega)]; omega)
            go_upto_region 10 with (fail)
            go_region_law (first
              | (go_simp; go_at_call 23; (with_reducible refine (HPK.out _ (by first | omega | exact HZM.out)).mono ?_); rintro e w3 ⟨r3, rfl, hr3, hm3, ho3⟩; have HO3 := Lib.hid ((Only.refl (· = M) wr).drew.trans ho3); have HM3 := Lib.hid hm3; have HP3 := Lib.hid (HP2.out.keep hMB (by omega) (by omega) HO3.out hm3); obtain ⟨z0, z1, z2, z3, _, _, _, _⟩ := four_free HP3.out.shp; clear hm3 ho3)
              | (go_simp; go_at_call 37; (with_reducible refine (stmts_any B M v k hv1 hv hk1 hk4 m (by omega) d (fun _ => False) [] (.slice none 0 0) w3 (by omega) HM3.out (nms_nil _ _) (fun g h => h.elim) (by simp <;> omega) (fun _ => rfl) r3 (by omega)).mono ?_); rintro e w4 ⟨xa, xn, xc, ya, yn, yc, l, r, rfl, hss, hnn, hms, hln, hrlen, _, hm4, ho4⟩; have HO4 := Lib.hid (HO3.out.trans ho4); have HSS := Lib.hid hss; have HNN := Lib.hid hnn; have HMS := Lib.hid hms; have HP4 := Lib.hid (HP3.out.keep hMB (by omega) (by omega) ho4 hm4); have hs34 := ho4.size; clear hss hnn hms hm4 ho4)
              | (trace_state; fail))
            all_goals
              have hs3' := HO3.out.size
              have hs4' := HO4.out.size
              obtain ⟨valsT, hownT, hrowsT⟩ := HP4.out.thr
              have HOWT := Lib.hid hownT
              have HRWT := Lib.hid hrowsT
              have HTP := Lib.hid (show (Value.slice a2 n2 c2).ownBlock ≠ some P from own_ne (t' := 30) hownT HP4.out.blk (by decide))
              clear hownT hrowsT
              obtain ⟨⟨x0, x1, x2, x3, x4, x5, x6, x7, x8, x9⟩, ⟨y0, y1, y2, y3, y4, y5, y6, y7, y8, y9⟩⟩ := ten_free HP4.out.blk
              have hPl4 := HP4.out.blk.lt
              go_upto_region 12 with (at_builtin; refine wpList_append_lies _ rfl (.tmp 62) (.tmp 64) 25 rfl w.heap.size 42 i1 (.slice none 0 0) 1 24 Try.underlying25 HJ.out HJ0.out HJ1.out HJ2.out rfl (by decide) (.slice a2 n2 c2) ls.length valsT rfl (HOWT.out.alloc _) ⟨w4.heap.size, 0, none⟩ 1 1 [.slice xa xn xc] rfl rfl (cells_new _ #[.slice xa xn xc] _) (sl_one _ _ _) (by decide) (by unfold maxLen; omega) (by omega) (by simp; omega) (w4.heap.size + 1) (by simp) ?_; intro g5 c5 w5 hown5 hgr5 hat5 hlt5; have hB5 := (hgr5.block P (by simp; omega) (fun e => HTP.out e.symm)).trans (HP4.out.blk.alloc (.cells #[.slice xa xn xc] 42)); have d2 : w5.cell? ⟨P, 3, none⟩ = some _ := Blk.cell hB5 3; have e2 : w5.frozen? ⟨P, 3, none⟩ = false := Blk.free hB5 3)
              have hpt := PgS.addT HP4.out hMB (by omega) (Nat.le_refl _) HOWT.out HRWT.out HSS.out (by show w.heap.size ≤ w3.heap.size; omega) (by have := HP3.out.blk.lt; show P < w3.heap.size; omega) HP3.out.owns.1 HP3.out.owns.2.1 HP3.out.owns.2.2 (n := ls.length + 1) rfl hgr5 hown5 hat5
              have hrb4 := HB2.out.only HO4.out (by omega)
              have HPZ := Lib.hid hpt.1
              have HRZ := Lib.hid ((hrb4.only ((((Only.refl (fun b => (Value.slice a2 n2 c2).ownBlock = some b) w4).alloc _).grown' hgr5 (fun k hk => .inl hk))) (own_ne (t' := 30) HOWT.out hrb4 (by decide))).only (only_set w5 P 3 (.slice (some ⟨g5, 0, none⟩) (ls.length + 1) c5)) (by omega))
              have HNZ := Lib.hid (nmsStep hpt.2 (HNN.out.mono (Q' := From w3.heap.size) (fun b hb _ => hb.elim (fun h => h.elim) id)))
              clear hpt hrb4 hgr5 hown5 hat5 hB5 d2 e2 x0 x1 x2 x3 x4 x5 x6 x7 x8 x9 y0 y1 y2 y3 y4 y5 y6 y7 y8 y9 HSS HNN
              generalize w5.setCell ⟨P, 3, none⟩ (.slice (some ⟨g5, 0, none⟩) (ls.length + 1) c5) = wz at *
              obtain ⟨valsR, hownR, hrowsR⟩ := HPZ.out.reg
              have HOWR := Lib.hid hownR
              have HRWR := Lib.hid hrowsR
              have hsz := HPZ.out.only.size
              clear hownR hrowsR
              go_wp2_with (at_builtin; refine wpList_append_lies _ rfl (.tmp 67) (.tmp 69) 89 rfl w.heap.size 52 i2 (.slice none 0 0) 1 24 Try.underlying89 HL.out HL0.out HL1.out HL2.out rfl (by decide) (.slice a3 n3 c3) rg.length valsR rfl (HOWR.out.alloc _) ⟨wz.heap.size, 0, none⟩ 1 1 [.slice ya yn yc] rfl rfl (cells_new _ #[.slice ya yn yc] _) (sl_one _ _ _) (by decide) (by unfold maxLen; omega) (by omega) (by simp; omega) (wz.heap.size + 1) (by simp) ?_; intro g6 c6 w6 hown6 hgr6 hat6 hlt6)
              go_roundw
              case rel =>
                have hpn := PgS.addR HPZ.out hMB HOWR.out HRWR.out HNZ.out (n := rg.length + 1) rfl hgr6 hown6 hat6
                have hrn := HRZ.out.only (((Only.refl (fun b => (Value.slice a3 n3 c3).ownBlock = some b) wz).alloc _).grown' hgr6 (fun k hk => .inl hk)) (own_ne (t' := 30) HOWR.out HRZ.out (by decide))
                refine ⟨s + 1, _, _, _, _, _, _, _, _, rfl, by go_num, by omega, hpn, hrn, .snoc HMT.out HMS.out (by omega), by simp [HLL.out], by simp [HRL.out], fun rr hrr => ?_⟩
                rcases List.mem_append.1 hrr with hx | hx
                · exact HRR2.out rr hx
                · rw [List.mem_singleton.1 hx]
                  simp at hrlen
                  omega
              case measure => simp [intOf]; omega
            --]
          · obtain rfl : t = s := by omega
            clear hlt hs
            have HRG := Lib.hid HP2.out.rgs
            obtain ⟨s0, s1, s2, s3, _, _, _, _⟩ := four_free HP2.out.shp
            go_wp2_with fail
            with_reducible refine (mcond_at B M v k hv1 hv hk1 hk4 rg (.slice a3 n3 c3) (fun b => w.heap.size ≤ b ∧ b < wr.heap.size) (fun g h e => by omega) (by have := HRL.out; omega) (by have := HRL.out; omega) (fun r hr => Nat.le_trans (HRR2.out r hr) (by omega)) 2 2 wr (by omega) rfl HP2.out.mkr HRG.out).mono ?_
            rintro e w3 ⟨co, cm, cst, cu, ka, kn, kc, x, rfl, hlc, hmc, hm3, ho3⟩
            have HLC := Lib.hid hlc
            have HMC := Lib.hid hmc
            have HP3 := Lib.hid (HP2.out.keep hMB (by omega) (by omega) ho3 hm3)
            have HR3 := Lib.hid (HB2.out.only ho3 (by omega))
            have hs3 := ho3.size
            clear hlc hmc hm3 s0 s1 s2 s3
            obtain ⟨⟨x0, x1, x2, x3, x4, x5, x6, x7, x8, x9⟩, ⟨y0, y1, y2, y3, y4, y5, y6, y7, y8, y9⟩⟩ := ten_free HP3.out.blk
            obtain ⟨⟨_, _, _, _, _, _, _, _, _, _⟩, ⟨z0, z1, z2, z3, z4, z5, z6, z7, z8, z9⟩⟩ := ten_free HR3.out
            have hlP := HP3.out.blk.lt
            have hlR := HR3.out.lt
            go_wp2_with fail
            clear x0 x1 x2 x3 x4 x5 x6 x7 x8 x9 y0 y1 y2 y3 y4 y5 y6 y7 y8 y9 z0 z1 z2 z3 z4 z5 z6 z7 z8 z9
            have hp5 : Only (fun b => b = P) w3 (((((w3.setCell ⟨P, 5, none⟩ (.int .i64 co)).setCell ⟨P, 6, none⟩ (.int .i64 cm)).setCell ⟨P, 7, none⟩ (.string cst)).setCell ⟨P, 8, none⟩ (.int .i64 cu)).setCell ⟨P, 9, none⟩ (.slice ka kn kc)) := (((((Only.refl (fun b => b = P) w3).setCell (p := ⟨P, 5, none⟩) (.inl rfl) _).setCell (p := ⟨P, 6, none⟩) (.inl rfl) _).setCell (p := ⟨P, 7, none⟩) (.inl rfl) _).setCell (p := ⟨P, 8, none⟩) (.inl rfl) _).setCell (p := ⟨P, 9, none⟩) (.inl rfl) _
            have hrq := HR3.out.only hp5 (by omega)
            have HP5 := Lib.hid hp5
            have hlq := hp5.size
            clear hp5
            generalize ((((w3.setCell ⟨P, 5, none⟩ (.int .i64 co)).setCell ⟨P, 6, none⟩ (.int .i64 cm)).setCell ⟨P, 7, none⟩ (.string cst)).setCell ⟨P, 8, none⟩ (.int .i64 cu)).setCell ⟨P, 9, none⟩ (.slice ka kn kc) = wq at *
            refine bodyPost_ret (results_cell_row (p := 10) rfl _ _ R 30 #[.string madeB, .int .i64 (v : Nat), .slice a n c, .slice a2 n2 c2, .int .i64 (ak : Nat), .int .i64 co, .int .i64 cm, .string cst, .int .i64 cu, .slice ka kn kc] (0, 0) _ rfl (put10 hrq) Try.underlying30 rfl (by kernel_rfl)) rfl ?_
            exact prog_done hMB (by omega) hwR hRP hak HP2.out HP3.out HR3.out HP5.out HLC.out HMI.out HCL.out HMT.out HMC.out HLL.out
end Go.Proofs.Ytlgnagmmljdkiab.Lx
/-
  What Made and Prog of a maker tell, as contracts: a program that is made of bytes that came in.
-/
namespace Go.Proofs.Ytlgnagmmljdkiab.Lx
open Go.RowKit
open P (EX CO ST PG MP)
set_option maxRecDepth 100000
set_option linter.unusedVariables false
set_option linter.unusedSimpArgs false
/-- A maker is told. -/
def MadeTo (w : World) (e : Ending) (w' : World) : Prop := ∃ M, e = .returned (.pointer (some ⟨M, 0, none⟩)) ∧ Mk w'.heap.size w' M ∧ w.heap.size ≤ M ∧ Below w.heap.size w w'
theorem made_any (a : Option Addr) (len cap : Nat) (xs : List Nat) (w : World) (h : IsBytes w a len xs) : Calls Try.prog 10 #[.slice a len cap] w (MadeTo w) := by
  have hmk : Mk (w.alloc (.cells #[.slice a len cap, .int .i64 0] 66)).heap.size (w.alloc (.cells #[.slice a len cap, .int .i64 0] 66)) w.heap.size := by
    obtain ⟨hl, hm, hw, hc⟩ := h
    refine ⟨a, len, cap, 0, Blk.new w 66 #[.slice a len cap, .int .i64 0], by simp, Nat.le_refl _, Nat.zero_le _, hm, fun i hi => ?_⟩
    rcases hc with h0 | ⟨b, off, ha, hc⟩
    · omega
    · have h1 := hc i hi
      have hb := World.block_lt_of_cell? w _ h1
      have hb' : b < w.heap.size := hb
      have hO : Only (fun _ => False) w (w.alloc (.cells #[.slice a len cap, .int .i64 0] 66)) := (Only.refl _ w).alloc _
      exact ⟨b, off, xs.getD i 0, ha, by omega, by simp; omega, hw i, hO.cell h1 id⟩
  have HMK := Lib.hid hmk
  have hb : Below w.heap.size w (w.alloc (.cells #[.slice a len cap, .int .i64 0] 66)) := (Below.refl _ _).alloc (Nat.le_refl _) _
  have HB := Lib.hid hb
  clear hmk hb h
  go_enter Try.func10, Try.ntmps10
  go_wp2_with fail
  go_ret
  exact ⟨_, rfl, HMK.out, Nat.le_refl _, HB.out⟩
theorem mprog_at (B M v k t m d : Nat) (zt zm zd : Int) (w : World) (hv1 : 1 ≤ v) (hv : v ≤ 9) (hk1 : 1 ≤ k) (hk4 : k ≤ 4) (ht1 : 1 ≤ t) (ht4 : t ≤ 10) (hm : m ≤ 90) (hd : d ≤ 5) (et : zt = (t : Int)) (em : zm = (m : Int)) (ed : zd = (d : Int)) (h : Mk B w M) :
    Calls Try.prog 24 #[.pointer (some ⟨M, 0, none⟩), .agg #[.int .i64 (v : Nat), .int .i64 (k : Nat), .bool false, .bool false], .int .i64 zt, .int .i64 zm, .int .i64 zd] w (MpTo B M v k t m d w) := by
  subst et em ed
  exact mprog_any B M v k t m d hv1 hv hk1 hk4 ht1 ht4 hm hd w h
/-- A program that is made is told. -/
def ProgTo (B M : Nat) (w : World) (e : Ending) (w' : World) : Prop := ∃ vp p v k, e = .returned vp ∧ LPg (From w.heap.size) w' vp p ∧ MP v k 4 1 p ∧ 2 ≤ v ∧ v ≤ 4 ∧ 1 ≤ k ∧ k ≤ 4 ∧ 1 ≤ p.threads.length ∧ p.threads.length ≤ 4 ∧ Mk B w' M ∧ Only (· = M) w w'
theorem prog7_done {B M v k t R : Nat} {w w3 w4 : World} {nm st : ByteArray} {vs ak o tt n : Int} {vi vt : Value} {a : Option Addr} {m c : Nat} {p : PG} (hMB : M < B ∧ B ≤ w.heap.size) (hv1 : 2 ≤ v) (hv : v ≤ 4) (hk1 : 1 ≤ k) (hk : k ≤ 4) (ht1 : 1 ≤ t) (ht : t ≤ 4) (hR : w.heap.size ≤ R) (hR3 : R < w3.heap.size) (hO : Only (· = M) w w4)
    (hl : LPg (From w3.heap.size) w4 (.agg #[.string nm, .int .i64 vs, vi, vt, .int .i64 ak, .int .i64 o, .int .i64 tt, .string st, .int .i64 n, .slice a m c]) p) (hmp : MP v k 4 1 p) (hpt : p.threads.length = t) (hm : Mk B w4 M) :
    ProgTo B M w (.returned (.agg #[.string nm, .int .i64 vs, vi, vt, .int .i64 ak, .int .i64 o, .int .i64 tt, .string st, .int .i64 n, .slice a m c])) (put10w w4 R (.string nm) (.int .i64 vs) vi vt (.int .i64 ak) (.int .i64 o) (.int .i64 tt) (.string st) (.int .i64 n) (.slice a m c)) := by
  have hq : Only (fun b => b = R) w4 (put10w w4 R (.string nm) (.int .i64 vs) vi vt (.int .i64 ak) (.int .i64 o) (.int .i64 tt) (.string st) (.int .i64 n) (.slice a m c)) := Only.put10 (Only.refl (fun b => b = R) w4) (.inl rfl) _ _ _ _ _ _ _ _ _ _
  exact ⟨_, p, v, k, rfl, hl.step (fun b hb hl => by
    have hb' : w3.heap.size ≤ b := hb
    exact ⟨by show w.heap.size ≤ b; omega, hq.block b hl (by omega)⟩), hmp, hv1, hv, hk1, hk, by omega, by omega, hm.only hq (fun g hg e => by omega), hO.then hq (fun b hb => .inr (by omega))⟩
set_option maxHeartbeats 3200000 in
theorem prog7_any (B M : Nat) (w : World) (h : Mk B w M) : Calls Try.prog 11 #[.pointer (some ⟨M, 0, none⟩)] w (ProgTo B M w) := by
  have hMB := h.le
  have hb0 : Below w.heap.size w (w.alloc (.cells (zp10 ⟨#[]⟩ 0 (.slice none 0 0) (.slice none 0 0) 0) 30)) := (Below.refl _ _).alloc (Nat.le_refl _) _
  have HM0 := Lib.hid (h.below hb0)
  have HR0 := Lib.hid (Blk.new w 30 (zp10 ⟨#[]⟩ 0 (.slice none 0 0) (.slice none 0 0) 0))
  have HO0 := Lib.hid (Only.of_below (S := (· = M)) hb0)
  have hs0 : (w.alloc (.cells (zp10 ⟨#[]⟩ 0 (.slice none 0 0) (.slice none 0 0) 0) 30)).heap.size = w.heap.size + 1 := by simp
  clear hb0 h
  go_enter Try.func11, Try.ntmps11
  go_wp2_with fail
  generalize w.alloc (.cells (zp10 ⟨#[]⟩ 0 (.slice none 0 0) (.slice none 0 0) 0) 30) = w0 at *
  with_reducible refine (pick_at B M 3 3 w0 HM0.out (by omega) (by omega) rfl).mono ?_
  rintro e w1 ⟨r1, rfl, hr1, hm1, ho1⟩
  have HM1 := Lib.hid hm1
  have HO1 := Lib.hid (HO0.out.trans ho1)
  have hs1 := ho1.size
  have HR1 := Lib.hid (HR0.out.only ho1 (by omega))
  clear hm1 ho1 HM0 HO0 HR0
  go_wp2_with fail
  with_reducible refine (pick_at B M 4 4 w1 HM1.out (by omega) (by omega) rfl).mono ?_
  rintro e w2 ⟨r2, rfl, hr2, hm2, ho2⟩
  have HM2 := Lib.hid hm2
  have HO2 := Lib.hid (HO1.out.trans ho2)
  have hs2 := ho2.size
  have HR2 := Lib.hid (HR1.out.only ho2 (by omega))
  clear hm2 ho2 HM1 HO1 HR1
  go_upto_region 2 with (fail)
  obtain ⟨v, ev⟩ : ∃ v : Nat, v = 2 + r1 := ⟨_, rfl⟩
  obtain ⟨k, ek⟩ : ∃ k : Nat, k = 1 + r2 := ⟨_, rfl⟩
  rw [show (2 + (r1 : Int)) = (v : Int) by omega, show (1 + (r2 : Int)) = (k : Int) by omega]
  have v1 : 2 ≤ v := by omega
  have v2 : v ≤ 4 := by omega
  have k1 : 1 ≤ k := by omega
  have k2 : k ≤ 4 := by omega
  clear ev ek
  have hb3 : Below w2.heap.size w2 (w2.alloc (.cells #[.int .i64 (v : Nat), .int .i64 (k : Nat), .bool false, .bool false] 69)) := (Below.refl _ _).alloc (Nat.le_refl _) _
  have HS3 := Lib.hid (Blk.new w2 69 #[.int .i64 (v : Nat), .int .i64 (k : Nat), .bool false, .bool false])
  have HM3 := Lib.hid (HM2.out.below hb3)
  have HO3 := Lib.hid (HO2.out.trans (Only.of_below hb3))
  have HR3 := Lib.hid (HR2.out.live' hb3)
  have hs3 := hb3.size
  have hSl : w.heap.size < w2.heap.size := by have := HR2.out.lt; omega
  clear hb3 HM2 HO2 HR2
  generalize w2.alloc (.cells #[.int .i64 (v : Nat), .int .i64 (k : Nat), .bool false, .bool false] 69) = w3 at *
  obtain ⟨s0, s1, s2, s3, _, _, _, _⟩ := four_free HS3.out
  have HP1 := Lib.hid (pick_at B M 4 4 w3.drew HM3.out.drew (by omega) (by omega) rfl)
  go_region_law (first
    | (go_simp; go_at_call 23; (with_reducible refine HP1.out.mono ?_); rintro e w4 ⟨r4, rfl, hr4, hm4, ho4⟩; have HO4 := Lib.hid ((Only.refl (· = M) w3).drew.trans ho4); have HM4 := Lib.hid hm4; obtain ⟨z0, z1, z2, z3, _, _, _, _⟩ := four_free (HS3.out.only HO4.out (by omega)); have HW4 := Lib.hid (show IntKind.i64.wrap (1 + (r4 : Int)) = ((1 + r4 : Nat) : Int) by rw [IntWalk.i64_in _ (by omega)]; omega); have hs4 := HO4.out.size; clear hm4 ho4)
    | (go_simp; go_at_call 24; (with_reducible refine (mprog_at B M v k (1 + r4) 4 1 _ 4 1 w4 (by omega) (by omega) (by omega) (by omega) (by omega) (by omega) (by omega) (by omega) (by first | omega | exact HW4.out) rfl rfl HM4.out).mono ?_); rintro e w5 ⟨vp, p, rfl, ⟨vi, vt, o, tt, st, n, a, m, c, rfl, ⟨ai, ci, rfl, hi1, hi2⟩, ⟨aq, ct, rfl, ht1, ht2⟩, hlc⟩, hmp, hpt, hm5, ho5⟩; have HLP := Lib.hid (show LPg (From w4.heap.size) w5 _ p from ⟨_, _, o, tt, st, n, a, m, c, rfl, ⟨ai, ci, rfl, hi1, hi2⟩, ⟨aq, ct, rfl, ht1, ht2⟩, hlc⟩); have HMP := Lib.hid hmp; have HPT := Lib.hid hpt; have HM5 := Lib.hid hm5; have HO5 := Lib.hid (HO3.out.trans (HO4.out.trans ho5)); have HR5 := Lib.hid (HR3.out.only (HO4.out.trans ho5) (by omega)); obtain ⟨_, y0, y1, y2, y3, y4, y5, y6, y7, y8, y9⟩ := ten_free HR5.out; have hs5 := HO5.out.size; have hlR := HR5.out.lt; clear hi1 hi2 ht1 ht2 hlc hmp hpt hm5 ho5)
    | (trace_state; fail))
  all_goals
    go_wp2_with fail
    refine bodyPost_ret (results_cell_row (p := 2) rfl _ _ w.heap.size 30 #[.string (bs p.name), .int .i64 p.vals, .slice ai p.init.length ci, .slice aq p.threads.length ct, .int .i64 p.ask, .int .i64 o, .int .i64 tt, .string st, .int .i64 n, .slice a m c] (0, 0) _ rfl (put10 HR5.out) Try.underlying30 rfl (by kernel_rfl)) rfl ?_
    exact prog7_done (t := 1 + r4) hMB (by omega) (by omega) (by omega) (by omega) (by omega) (by omega) (Nat.le_refl _) (by omega) HO5.out HLP.out HMP.out HPT.out HM5.out
end Go.Proofs.Ytlgnagmmljdkiab.Lx
