/-
  What stmts of a maker tells, as a contract: statements that are made.
-/
import Derived.Test.YtlgnagmmljdkiabMLst
import Derived.Deep.DeepCutAuto
import Derived.Deep.RegionHeld3
import Derived.Deep.CutBlock
namespace Go.Proofs.Ytlgnagmmljdkiab.Lx
open Go.RowKit
open P (EX CO ST PG MX M0 MS MSs wth locB regB)
set_option maxRecDepth 100000
set_option linter.unusedVariables false
set_option linter.unusedSimpArgs false
abbrev zs : Array Value := #[.int .i64 0, .int .i64 0, .string ⟨#[]⟩, .string ⟨#[]⟩, .slice none 0 0, .slice none 0 0, .slice none 0 0]
theorem Try.infoStmt' : (Try.prog.info? 45).map (fun i => (i.zero, i.size, i.bytes)) = some (some (.agg #[.int .i64 0, .int .i64 0, .string ⟨#[]⟩, .string ⟨#[]⟩, .slice none 0 0, .slice none 0 0, .slice none 0 0]), 7, 120) := by kernel_rfl
/-- Statements that are made are told, and which registers are known behind them. -/
def StTo (Q : Nat → Prop) (B M v k d n : Nat) (rs : List (List UInt8)) (w : World) (e : Ending) (w' : World) : Prop :=
  ∃ (a1 : Option Addr) (n1 c1 : Nat) (a2 : Option Addr) (n2 c2 : Nat) (l : List ST) (r : List (List UInt8)), e = .returned (.tuple #[.slice a1 n1 c1, .slice a2 n2 c2]) ∧ IsSs (From w.heap.size) w' (.slice a1 n1 c1) l ∧ Nms (fun b => Q b ∨ w.heap.size ≤ b) w' (.slice a2 n2 c2) r ∧ MSs v k d rs l r ∧ l.length ≤ n ∧ r.length ≤ rs.length + n ∧
    (r = [] → (Value.slice a2 n2 c2) = .slice none 0 0) ∧ Mk B w' M ∧ Only (· = M) w w'
/-- Blocks where names may lie. -/
def NQ (Q : Nat → Prop) (n : Nat) (ov : Value) (b : Nat) : Prop := (Q b ∧ b < n) ∨ (n ≤ b ∧ ov.ownBlock ≠ some b)
/-- A round's place. -/
structure StR (Q : Nat → Prop) (B M v k d n : Nat) (rs : List (List UInt8)) (w : World) (SH : Nat) (rv ov : Value) (j : Nat) (l : List ST) (r : List (List UInt8)) (wr : World) : Prop where
  out : Lst 7 agg LS 45 w.heap.size wr ov l
  nms : Nms (NQ Q w.heap.size ov) wr rv r
  made : MSs v k d rs l r
  len : l.length ≤ j
  rlen : r.length ≤ rs.length + j
  nil : r = [] → rv = .slice none 0 0
  mkr : Mk B wr M
  only : Only (· = M) w wr
  shp : Blk wr SH 69 #[.int .i64 (v : Nat), .int .i64 (k : Nat), .bool false, .bool false]
/-- What the choice leaves: a statement that is made, in block E. -/
def OneR (M v k E : Nat) (rs : List (List UInt8)) (w0 w : World) (B : Nat) (wx : World) : Prop :=
  ∃ (kd md : Int) (rg lc : List UInt8) (a1 : Option Addr) (n1 c1 : Nat) (a2 : Option Addr) (n2 c2 : Nat) (a3 : Option Addr) (n3 c3 : Nat) (s : ST) (r2 : List (List UInt8)), Blk wx E 45 #[.int .i64 kd, .int .i64 md, .string (bs rg), .string (bs lc), .slice a1 n1 c1, .slice a2 n2 c2, .slice a3 n3 c3] ∧
    LS (fun b => E < b) wx (agg [.int .i64 kd, .int .i64 md, .string (bs rg), .string (bs lc), .slice a1 n1 c1, .slice a2 n2 c2, .slice a3 n3 c3]) s ∧ M0 v k rs s r2 ∧ r2 = (if rg = [] then rs else wth rs rg) ∧ Mk B wx M ∧ Only (fun b => b = M ∨ b = E) w0 wx
theorem wth_ne (r : List (List UInt8)) (s : List UInt8) : wth r s ≠ [] := by
  unfold P.wth
  split
  · rename_i h
    intro e
    rw [e] at h
    cases h
  · simp
/-- Behind the append. -/
theorem st_app {Q : Nat → Prop} {B M v k d n : Nat} {rs : List (List UInt8)} {w : World} {rv ov : Value} {j : Nat} {l : List ST} {r : List (List UInt8)} {wr wc w5 : World} {s : ST} {kd md : Int} {rg lc : ByteArray} {a1 : Option Addr} {n1 c1 : Nat} {a2 : Option Addr} {n2 c2 : Nat} {a3 : Option Addr} {n3 c3 : Nat}
    (h : StR Q B M v k d n rs w w.heap.size rv ov j l r wr) (hMB : M < B ∧ B ≤ w.heap.size) (hq : ∀ g, Q g → g ≠ M) (hoc : Only (fun b => b = M ∨ b = wr.heap.size) wr wc) (hmk : Mk B wc M) (hE : Blk wc wr.heap.size 45 #[.int .i64 kd, .int .i64 md, .string rg, .string lc, .slice a1 n1 c1, .slice a2 n2 c2, .slice a3 n3 c3])
    (hls : LS (fun b => wr.heap.size < b) wc (agg [.int .i64 kd, .int .i64 md, .string rg, .string lc, .slice a1 n1 c1, .slice a2 n2 c2, .slice a3 n3 c3]) s) {vals : List Value} (hown : wc.ownsRow w.heap.size 45 7 ov l.length vals) (hrows : RowsV 7 agg LS (fun b => w.heap.size ≤ b ∧ ov.ownBlock ≠ some b) wc vals l) {o : Obj} {g2 cap m : Nat} (hm : m = l.length + 1)
    (hgr : (wc.alloc o).grownBy w5 ov.ownBlock) (how : w5.ownsRow w.heap.size 45 7 (.slice (some ⟨g2, 0, none⟩) m cap) m (vals ++ [.int .i64 kd, .int .i64 md, .string rg, .string lc, .slice a1 n1 c1, .slice a2 n2 c2, .slice a3 n3 c3])) (hat : ov.ownBlock = some g2 ∨ g2 = wc.heap.size + 1) :
    Lst 7 agg LS 45 w.heap.size w5 (.slice (some ⟨g2, 0, none⟩) m cap) (l ++ [s]) ∧ Nms (NQ Q w.heap.size (.slice (some ⟨g2, 0, none⟩) m cap)) w5 rv r ∧ Mk B w5 M ∧ Only (· = M) w w5 ∧ Blk w5 w.heap.size 69 #[.int .i64 (v : Nat), .int .i64 (k : Nat), .bool false, .bool false] ∧ Blk w5 wr.heap.size 45 #[.int .i64 kd, .int .i64 md, .string rg, .string lc, .slice a1 n1 c1, .slice a2 n2 c2, .slice a3 n3 c3] ∧ g2 < w5.heap.size := by
  have hs1 := h.only.size
  have hsc := hoc.size
  have hlb : ∀ k, ov.ownBlock = some k → w.heap.size ≤ k ∧ k < wr.heap.size := by
    obtain ⟨vs, hv, _⟩ := h.out
    exact fun k hk => hv.lt k hk
  have hsh : ov.ownBlock ≠ some w.heap.size := by
    obtain ⟨vs, hv, _⟩ := h.out
    exact own_ne (t' := 69) hv h.shp (by decide)
  have hO5 : Only (fun b => ov.ownBlock = some b) wc w5 := ((Only.refl _ wc).alloc o).grown' hgr (fun k hk => .inl hk)
  have hOw : Only (· = M) w wc := h.only.then hoc (fun b hb => by
    rcases hb with hb | hb
    · exact .inl hb
    · exact .inr (by omega))
  refine ⟨Lst.snoc hown hrows lsStep rfl (lsStep (fun b hb hl => ⟨⟨by omega, fun e => by have := hlb b e; omega⟩, rfl⟩) hls) hm hgr how hat, ?_, hmk.only hO5 (fun g hg e => by have := hlb g e; omega), hOw.then hO5 (fun b hb => .inr (hlb b hb).1), ?_, hE.only hO5 (fun e => by have := hlb _ e; omega), (how.lt g2 rfl).2⟩
  · refine nmsStep (Q := NQ Q w.heap.size ov) (w := wr) ?_ h.nms
    intro b hb hbl
    have hbM : b ≠ M := by
      rcases hb with hb | hb
      · exact hq b hb.1
      · omega
    have hbo : ov.ownBlock ≠ some b := by
      rcases hb with hb | hb
      · intro e
        have := hlb b e
        omega
      · exact hb.2
    refine ⟨?_, (hO5.block b (by omega) hbo).trans (hoc.block b hbl (fun e => by
      rcases e with e | e
      · exact hbM e
      · omega))⟩
    rcases hb with hb | hb
    · exact .inl hb
    · refine .inr ⟨hb.1, fun e => ?_⟩
      have e' : g2 = b := Option.some.inj e
      subst e'
      rcases hat with h1 | h1
      · exact hb.2 h1
      · omega
  · exact (h.shp.only hoc (fun e => by
      have := h.shp.lt
      rcases e with e | e <;> omega)).only hO5 hsh
/-- A statement without arguments lies in its block. -/
theorem one_none {B M v k E : Nat} {rs : List (List UInt8)} {w w4 w7 : World} {kd md : Int} {rg lc : List UInt8} {r2 : List (List UInt8)} (hME : M < E) (hBE : B ≤ E) (hO : Only (· = M) w4 w7) (hE : Blk w7 E 45 zs) (hm : Mk B w7 M)
    (hm0 : M0 v k rs (.mk kd md rg lc [] [] []) r2) (hr : r2 = if rg = [] then rs else wth rs rg) :
    OneR M v k E rs w4 w B (put7w w7 E (.int .i64 kd) (.int .i64 md) (.string (bs rg)) (.string (bs lc)) (.slice none 0 0) (.slice none 0 0) (.slice none 0 0)) := by
  have hp : Only (fun b => b = E) w7 (put7w w7 E (.int .i64 kd) (.int .i64 md) (.string (bs rg)) (.string (bs lc)) (.slice none 0 0) (.slice none 0 0) (.slice none 0 0)) := Only.put7 (Only.refl (fun b => b = E) w7) (.inl rfl) _ _ _ _ _ _ _
  refine ⟨kd, md, rg, lc, none, 0, 0, none, 0, 0, none, 0, 0, _, r2, put7 hE, ls_none, hm0, hr, hm.only hp (fun g hg e => by omega), ?_⟩
  exact Only.then (S := fun b => b = M ∨ b = E) (Only.then (S := fun b => b = M ∨ b = E) (Only.refl _ _) hO (fun b hb => .inl (.inl hb))) hp (fun b hb => .inl (.inr hb))
/-- A statement with arguments in a block of their own. -/
theorem one_args {B M v k E n c : Nat} {rs : List (List UInt8)} {w w4 w7 : World} {kd md : Int} {rg lc : List UInt8} {xs : List EX} {cs : Array Value} {r2 : List (List UInt8)} (hME : M < E) (hBE : B ≤ E) (hO : Only (· = M) w4 w7) (hE : Blk w7 E 45 zs) (hm : Mk B w7 M) (hn : n = xs.length) (hn2 : xs.length ≤ 2)
    (hx : ∀ w8, (∀ b, E < b → b < w7.heap.size → w8.heap[b]? = w7.heap[b]?) → w7.heap.size ≤ w8.heap.size → Blk w8 w7.heap.size 47 cs → LXs (fun b => E < b) w8 w7.heap.size 0 xs)
    (hm0 : M0 v k rs (.mk kd md rg lc xs [] []) r2) (hr : r2 = if rg = [] then rs else wth rs rg) :
    OneR M v k E rs w4 w B ((put7w w7 E (.int .i64 kd) (.int .i64 md) (.string (bs rg)) (.string (bs lc)) (.slice (some ⟨w7.heap.size, 0, none⟩) n c) (.slice none 0 0) (.slice none 0 0)).alloc (.cells cs 47)) := by
  subst hn
  have hEl := hE.lt
  have hp : Only (fun b => b = E) w7 (put7w w7 E (.int .i64 kd) (.int .i64 md) (.string (bs rg)) (.string (bs lc)) (.slice (some ⟨w7.heap.size, 0, none⟩) xs.length c) (.slice none 0 0) (.slice none 0 0)) := Only.put7 (Only.refl (fun b => b = E) w7) (.inl rfl) _ _ _ _ _ _ _
  have hsz : (put7w w7 E (.int .i64 kd) (.int .i64 md) (.string (bs rg)) (.string (bs lc)) (.slice (some ⟨w7.heap.size, 0, none⟩) xs.length c) (.slice none 0 0) (.slice none 0 0)).heap.size = w7.heap.size := by simp [put7w, World.setCell]
  have hB8 := put7 (a' := .int .i64 kd) (b' := .int .i64 md) (c' := .string (bs rg)) (d' := .string (bs lc)) (e' := .slice (some ⟨w7.heap.size, 0, none⟩) xs.length c) (f' := .slice none 0 0) (h' := .slice none 0 0) hE
  generalize put7w w7 E (.int .i64 kd) (.int .i64 md) (.string (bs rg)) (.string (bs lc)) (.slice (some ⟨w7.heap.size, 0, none⟩) xs.length c) (.slice none 0 0) (.slice none 0 0) = w8 at *
  have hK := Blk.new w8 47 cs
  have hb9 : Below w8.heap.size w8 (w8.alloc (.cells cs 47)) := (Below.refl _ _).alloc (Nat.le_refl _) _
  rw [hsz] at hK
  have h9 := hx (w8.alloc (.cells cs 47)) (fun b hb hl => (hb9.block b (by omega)).trans (hp.block b hl (by omega))) (by have := hb9.size; omega) hK
  refine ⟨kd, md, rg, lc, _, _, _, none, 0, 0, none, 0, 0, _, r2, hB8.live' hb9, ls_args hn2 hEl h9, hm0, hr, (hm.only hp (fun g hg e => by omega)).below hb9, ?_⟩
  exact (Only.then (S := fun b => b = M ∨ b = E) (Only.then (S := fun b => b = M ∨ b = E) (Only.refl _ _) hO (fun b hb => .inl (.inl hb))) hp (fun b hb => .inl (.inr hb))).trans (Only.of_below hb9)
/-- One argument; two. -/
theorem arg_one {E : Nat} {w7 w8 : World} {o m : Int} {s : ByteArray} {a : Option Addr} {n c : Nat} {x : EX} (hx : LX (fun b => E < b) w7 (.agg #[.int .i64 o, .int .i64 m, .string s, .slice a n c]) x) (h : ∀ b, E < b → b < w7.heap.size → w8.heap[b]? = w7.heap[b]?) (hB : Blk w8 w7.heap.size 47 #[.int .i64 o, .int .i64 m, .string s, .slice a n c]) : LXs (fun b => E < b) w8 w7.heap.size 0 [x] := by
  unfold LXs
  refine ⟨⟨_, _, _, _, hB.cell 0, hB.cell 1, hB.cell 2, hB.cell 3, hx.keep h⟩, ?_⟩
  unfold LXs
  trivial
theorem arg_two {E : Nat} {w7 w8 : World} {o m o' m' : Int} {s s' : ByteArray} {a a' : Option Addr} {n c n' c' : Nat} {x y : EX} (hx : LX (fun b => E < b) w7 (.agg #[.int .i64 o, .int .i64 m, .string s, .slice a n c]) x) (hy : LX (fun b => E < b) w7 (.agg #[.int .i64 o', .int .i64 m', .string s', .slice a' n' c']) y) (h : ∀ b, E < b → b < w7.heap.size → w8.heap[b]? = w7.heap[b]?) (hB : Blk w8 w7.heap.size 47 #[.int .i64 o, .int .i64 m, .string s, .slice a n c, .int .i64 o', .int .i64 m', .string s', .slice a' n' c']) : LXs (fun b => E < b) w8 w7.heap.size 0 [x, y] := by
  unfold LXs
  refine ⟨⟨_, _, _, _, hB.cell 0, hB.cell 1, hB.cell 2, hB.cell 3, hx.keep h⟩, ?_⟩
  unfold LXs
  refine ⟨⟨_, _, _, _, hB.cell 4, hB.cell 5, hB.cell 6, hB.cell 7, hy.keep h⟩, ?_⟩
  unfold LXs
  trivial
/-- An if with its question, in blocks of their own. -/
theorem if_args {B M v k E SH c : Nat} {w4 w7 : World} {x : EX} {cs shc : Array Value} {ty : TypeId} (hME : M < E) (hBE : B ≤ E) (hO : Only (· = M) w4 w7) (hE : Blk w7 E 45 zs) (hm : Mk B w7 M) (hS : Blk w7 SH ty shc) (hSE : SH ≠ E)
    (hx : ∀ w8, (∀ b, E < b → b < w7.heap.size → w8.heap[b]? = w7.heap[b]?) → w7.heap.size ≤ w8.heap.size → Blk w8 w7.heap.size 47 cs → LXs (fun b => E < b) w8 w7.heap.size 0 [x]) :
    (fun w9 : World => Blk w9 E 45 #[.int .i64 7, .int .i64 0, .string ⟨#[]⟩, .string ⟨#[]⟩, .slice (some ⟨w7.heap.size, 0, none⟩) 1 c, .slice none 0 0, .slice none 0 0] ∧ LXs (fun b => E < b) w9 w7.heap.size 0 [x] ∧ Mk B w9 M ∧ Only (fun b => b = M ∨ b = E) w4 w9 ∧ Blk w9 SH ty shc ∧ w7.heap.size < w9.heap.size)
      ((put7w w7 E (.int .i64 7) (.int .i64 0) (.string ⟨#[]⟩) (.string ⟨#[]⟩) (.slice (some ⟨w7.heap.size, 0, none⟩) 1 c) (.slice none 0 0) (.slice none 0 0)).alloc (.cells cs 47)) := by
  have hEl := hE.lt
  have hp : Only (fun b => b = E) w7 (put7w w7 E (.int .i64 7) (.int .i64 0) (.string ⟨#[]⟩) (.string ⟨#[]⟩) (.slice (some ⟨w7.heap.size, 0, none⟩) 1 c) (.slice none 0 0) (.slice none 0 0)) := Only.put7 (Only.refl (fun b => b = E) w7) (.inl rfl) _ _ _ _ _ _ _
  have hsz : (put7w w7 E (.int .i64 7) (.int .i64 0) (.string ⟨#[]⟩) (.string ⟨#[]⟩) (.slice (some ⟨w7.heap.size, 0, none⟩) 1 c) (.slice none 0 0) (.slice none 0 0)).heap.size = w7.heap.size := by simp [put7w, World.setCell]
  have hB8 := put7 (a' := .int .i64 7) (b' := .int .i64 0) (c' := .string ⟨#[]⟩) (d' := .string ⟨#[]⟩) (e' := .slice (some ⟨w7.heap.size, 0, none⟩) 1 c) (f' := .slice none 0 0) (h' := .slice none 0 0) hE
  generalize put7w w7 E (.int .i64 7) (.int .i64 0) (.string ⟨#[]⟩) (.string ⟨#[]⟩) (.slice (some ⟨w7.heap.size, 0, none⟩) 1 c) (.slice none 0 0) (.slice none 0 0) = w8 at *
  have hK := Blk.new w8 47 cs
  have hb9 : Below w8.heap.size w8 (w8.alloc (.cells cs 47)) := (Below.refl _ _).alloc (Nat.le_refl _) _
  rw [hsz] at hK
  have h9 := hx (w8.alloc (.cells cs 47)) (fun b hb hl => (hb9.block b (by omega)).trans (hp.block b hl (by omega))) (by have := hb9.size; omega) hK
  exact ⟨hB8.live' hb9, h9, (hm.only hp (fun g hg e => by omega)).below hb9, (Only.then (S := fun b => b = M ∨ b = E) (Only.then (S := fun b => b = M ∨ b = E) (Only.refl _ _) hO (fun b hb => .inl (.inl hb))) hp (fun b hb => .inl (.inr hb))).trans (Only.of_below hb9), (hS.only hp hSE).live' hb9, hK.lt⟩
theorem lxs_only {E M : Nat} {w w' : World} {g : Nat} {xs : List EX} (h : LXs (fun b => E < b) w g 0 xs) (hg : E < g) {S : Nat → Prop} (ho : Only S w w') (hS : ∀ b, E < b → ¬ S b) : LXs (fun b => E < b) w' g 0 xs := LXs.keep (Keeps.only ho (fun q hq => hS q hq)) xs hg h
/-- A block beside the statement's is as it was. -/
theorem sh_keep {w7 : World} {SH E : Nat} {ty : TypeId} {a b c d : Value} (h : Blk w7 SH ty #[a, b, c, d]) (hSE : SH ≠ E) (u0 u1 u2 u3 u4 u5 u6 : Value) (o : Obj) :
    (((((((((w7.setCell ⟨E, 0, none⟩ u0).setCell ⟨E, 1, none⟩ u1).setCell ⟨E, 2, none⟩ u2).setCell ⟨E, 3, none⟩ u3).setCell ⟨E, 4, none⟩ u4).setCell ⟨E, 5, none⟩ u5).setCell ⟨E, 6, none⟩ u6).alloc o).cell? ⟨SH, 0, none⟩ = some a) ∧ (((((((((w7.setCell ⟨E, 0, none⟩ u0).setCell ⟨E, 1, none⟩ u1).setCell ⟨E, 2, none⟩ u2).setCell ⟨E, 3, none⟩ u3).setCell ⟨E, 4, none⟩ u4).setCell ⟨E, 5, none⟩ u5).setCell ⟨E, 6, none⟩ u6).alloc o).cell? ⟨SH, 1, none⟩ = some b) ∧
    (((((((((w7.setCell ⟨E, 0, none⟩ u0).setCell ⟨E, 1, none⟩ u1).setCell ⟨E, 2, none⟩ u2).setCell ⟨E, 3, none⟩ u3).setCell ⟨E, 4, none⟩ u4).setCell ⟨E, 5, none⟩ u5).setCell ⟨E, 6, none⟩ u6).alloc o).cell? ⟨SH, 2, none⟩ = some c) ∧ (((((((((w7.setCell ⟨E, 0, none⟩ u0).setCell ⟨E, 1, none⟩ u1).setCell ⟨E, 2, none⟩ u2).setCell ⟨E, 3, none⟩ u3).setCell ⟨E, 4, none⟩ u4).setCell ⟨E, 5, none⟩ u5).setCell ⟨E, 6, none⟩ u6).alloc o).cell? ⟨SH, 3, none⟩ = some d) := by
  have h1 : Blk (put7w w7 E u0 u1 u2 u3 u4 u5 u6) SH ty #[a, b, c, d] := h.only (Only.put7 (Only.refl (fun b => b = E) w7) (.inl rfl) _ _ _ _ _ _ _) hSE
  have h2 := h1.alloc o
  exact ⟨h2.cell 0, h2.cell 1, h2.cell 2, h2.cell 3⟩
set_option maxHeartbeats 6400000 in
theorem stmts_step (Q : Nat → Prop) (B M v k : Nat) (hv1 : 1 ≤ v) (hv : v ≤ 9) (hk1 : 1 ≤ k) (hk : k ≤ 4) (n d : Nat) (rs : List (List UInt8)) (vr : Value) (w : World) (hn : n ≤ 100) (hd : d ≤ 10) (h : Mk B w M) (hr : Nms Q w vr rs) (hq : ∀ g, Q g → g ≠ M) (hl : rs.length + 100 * (d + 1) ≤ 800) (hnil : rs = [] → vr = .slice none 0 0)
    (ih : ∀ d', d = d' + 1 → ∀ (Q : Nat → Prop) (rs : List (List UInt8)) (vr : Value) (w : World), Mk B w M → Nms Q w vr rs → (∀ g, Q g → g ≠ M) → rs.length + 100 * (d' + 1) ≤ 800 → (rs = [] → vr = .slice none 0 0) → Calls Try.prog 37 #[.pointer (some ⟨M, 0, none⟩), .agg #[.int .i64 (v : Nat), .int .i64 (k : Nat), .bool false, .bool false], .int .i64 1, .int .i64 (d' : Nat), vr] w (StTo Q B M v k d' 1 rs w)) :
    Calls Try.prog 37 #[.pointer (some ⟨M, 0, none⟩), .agg #[.int .i64 (v : Nat), .int .i64 (k : Nat), .bool false, .bool false], .int .i64 (n : Nat), .int .i64 (d : Nat), vr] w (StTo Q B M v k d n rs w) := by
  have IH := Lib.hid ih
  have HQ0 := Lib.hid hq
  have HQ := Lib.hid (show ∀ (ov : Value) g, NQ Q w.heap.size ov g → g ≠ M from fun ov g hg e => by
    rcases hg with hg | hg
    · exact hq g hg.1 e
    · have := h.le
      omega)
  have hMB := h.le
  obtain ⟨i0, hi, hz0, hz1, hz2⟩ := info_parts Try.infoStmt'
  have HI := Lib.hid hi
  have HZ0 := Lib.hid hz0
  have HZ1 := Lib.hid hz1
  have HZ2 := Lib.hid hz2
  have HM := Lib.hid h
  have HR := Lib.hid hr
  have HNIL := Lib.hid hnil
  obtain ⟨av, cv, rfl, _⟩ := hr
  clear ih hq hi hz0 hz1 hz2 h hnil
  go_enter Try.func37, Try.ntmps37
  go_wp2_with fail
  have hb0 : Below w.heap.size w (w.alloc (.cells #[.int .i64 (v : Nat), .int .i64 (k : Nat), .bool false, .bool false] 69)) := (Below.refl _ _).alloc (Nat.le_refl _) _
  have H0 : Hid (StR Q B M v k d n rs w w.heap.size (.slice av rs.length cv) (.slice none 0 0) 0 [] rs (w.alloc (.cells #[.int .i64 (v : Nat), .int .i64 (k : Nat), .bool false, .bool false] 69))) := Lib.hid ⟨Lst.nil, (HR.out.mono (Q' := NQ Q w.heap.size (.slice none 0 0)) (fun g hg hgl => .inl ⟨hg, hgl⟩)).keep (Keeps.below hb0 (Nat.le_refl _)), .nil, Nat.le_refl _, Nat.le_refl _, HNIL.out, HM.out.below hb0, Only.of_below hb0, Blk.new w _ _⟩
  clear hb0 HM HR HNIL
  generalize w.alloc (.cells #[.int .i64 (v : Nat), .int .i64 (k : Nat), .bool false, .bool false] 69) = w0 at *
  go_loopw [4, 12, 13] (fun rv ov iv wr => ∃ (a1 : Option Addr) (n1 c1 : Nat) (a2 : Option Addr) (n2 c2 : Nat) (j : Nat) (l : List ST) (r : List (List UInt8)), rv = .slice a2 n2 c2 ∧ ov = .slice a1 n1 c1 ∧ iv = .int .i64 j ∧ j ≤ n ∧ StR Q B M v k d n rs w w.heap.size (.slice a2 n2 c2) (.slice a1 n1 c1) j l r wr) (fun _ _ iv _ => n - (intOf iv).toNat)
  case atStart => exact ⟨_, _, _, _, _, _, 0, _, _, rfl, rfl, rfl, Nat.zero_le _, H0.out⟩
  case round =>
    obtain ⟨a1, n1, c1, a2, n2, c2, j, l, r, rfl, rfl, rfl, hj, hst⟩ := hrel
    have HST := Lib.hid hst
    clear hst H0
    by_cases hlt : j < n
    · go_wp2_with fail
      have hwr := HST.out.only.size
      have hE0 := Blk.new wr 45 zs
      have hbE : Below wr.heap.size wr (wr.alloc (.cells zs 45)) := (Below.refl _ _).alloc (Nat.le_refl _) _
      have HE0 := Lib.hid hE0
      have HS0 := Lib.hid (HST.out.shp.live' hbE)
      have HM0 := Lib.hid (HST.out.mkr.below hbE)
      have HO0 := Lib.hid (Only.of_below (S := (· = M)) hbE)
      have hs0 : wr.heap.size < (wr.alloc (.cells zs 45)).heap.size := hE0.lt
      clear hE0 hbE
      generalize wr.alloc (.cells zs 45) = w1 at *
      with_reducible refine (pick_at B M 12 12 w1 HM0.out (by omega) (by omega) rfl).mono ?_
      rintro e w2 ⟨p, rfl, hp, hm2, ho2⟩
      have HE2 := Lib.hid (HE0.out.only ho2 (by omega))
      have HS2 := Lib.hid (HS0.out.only ho2 (by omega))
      have HO2 := Lib.hid (HO0.out.trans ho2)
      have HM2 := Lib.hid hm2
      have hs2 := ho2.size
      clear hm2 ho2 HE0 HS0 HO0 HM0
      go_wp2_with fail
      with_reducible refine (pick_at B M 4 4 w2 HM2.out (by omega) (by omega) rfl).mono ?_
      rintro e w3 ⟨ri, rfl, hri, hm3, ho3⟩
      have HE3 := Lib.hid (HE2.out.only ho3 (by omega))
      have HS3 := Lib.hid (HS2.out.only ho3 (by omega))
      have HO3 := Lib.hid (HO2.out.trans ho3)
      have HM3 := Lib.hid hm3
      have hs3 := ho3.size
      clear hm3 ho3 HE2 HS2 HO2 HM2
      go_wp2_with fail
      with_reducible refine (reg_any ri hri w3).mono ?_
      rintro e w3 ⟨rfl, rfl⟩
      have c1 : w3.cell? ⟨w.heap.size, 1, none⟩ = some (.int .i64 (k : Nat)) := HS3.out.cell 1
      go_wp2_with fail
      clear c1
      with_reducible refine (pick_at B M k k w3 HM3.out (by omega) (by omega) rfl).mono ?_
      rintro e w4 ⟨rj, rfl, hrj, hm4, ho4⟩
      have HE4 := Lib.hid (HE3.out.only ho4 (by omega))
      have HS4 := Lib.hid (HS3.out.only ho4 (by omega))
      have HO4 := Lib.hid (HO3.out.trans ho4)
      have HM4 := Lib.hid hm4
      have hs4 := ho4.size
      clear hm4 ho4 HE3 HS3 HO3 HM3
      go_wp2_with fail
      with_reducible refine (loc_any rj (by omega) w4).mono ?_
      rintro e w4 ⟨rfl, rfl⟩
      generalize hRG : bs [regB ri] = RG at *
      generalize hLC : bs [locB rj] = LC' at *
      have HRG := Lib.hid hRG
      have HLC := Lib.hid hLC
      clear hRG hLC
      go_upto_block 2 with (fail)
      go_cut [12] from 18 to 165 (fun ov wx => ov = .slice a1 n1 c1 ∧ OneR M v k wr.heap.size r w4 w B wx)
      case first =>
        have hs4' := hs4
        obtain ⟨s0, s1, s2, s3, _, _, _, _⟩ := four_free HS4.out
        by_cases p4 : p < 4
        · have t1 : decide ((p : Int) < 4) = true := by simp <;> omega
          have t1' : decide (p < 4) = true := by simp <;> omega
          go_wp2_with fail
          have hbG : Below w4.heap.size w4 (w4.alloc (.cells #[.int .i64 0, .int .i64 1, .int .i64 4] 3)) := (Below.refl _ _).alloc (Nat.le_refl _) _
          with_reducible refine (mode_at B M v k w4.heap.size 3 3 [0, 1, 4] _ (HM4.out.below hbG) (by omega) (ints_new (ms := [0, 1, 4]) (Blk.new w4 3 #[.int .i64 0, .int .i64 1, .int .i64 4])) rfl (by decide) (by decide)).mono ?_
          rintro e w6 ⟨m, rfl, hm, hm6, ho6⟩
          have HO6 := Lib.hid ((Only.of_below (S := (· = M)) hbG).trans ho6)
          have HE6 := Lib.hid (HE4.out.only HO6.out (by omega))
          have HM6 := Lib.hid hm6
          obtain ⟨x0, x1, x2, x3, x4, x5, x6, y0, y1, y2, y3, y4, y5, y6⟩ := seven_free HE6.out
          clear hbG hm6 ho6
          go_wp2_with fail
          go_meet
          case rel =>
            refine ⟨rfl, ?_⟩
            rw [← HRG.out, ← HLC.out]
            exact one_none (by omega) (by omega) HO6.out HE6.out HM6.out (.load (by simpa using hm) hri hrj) (by simp)
        · have t1 : decide ((p : Int) < 4) = false := by simp <;> omega
          have t1' : decide (p < 4) = false := by simp <;> omega
          have HN4 := Lib.hid (HST.out.nms.keep (Keeps.only HO4.out (fun g hg => HQ.out _ g hg)))
          have HEX := Lib.hid (fun (dd : Nat) (z : Int) (hz : z = (dd : Int)) (hdd : dd ≤ 10) (w' : World) (hw : Only (· = M) w4 w') (hk : Mk B w' M) => mexpr_at B M v hv1 hv dd z hz r (NQ Q w.heap.size (.slice a1 n1 c1)) (.slice a2 n2 c2) w' hdd hk (HN4.out.keep (Keeps.only hw (fun g hg => HQ.out _ g hg))) (fun g hg => HQ.out _ g hg) (by have := HST.out.rlen; omega))
          by_cases p8 : p < 8
          · have t2 : decide ((p : Int) < 8) = true := by simp <;> omega
            have t2' : decide (p < 8) = true := by simp <;> omega
            have HBG := Lib.hid (show Below w4.heap.size w4 (w4.alloc (.cells #[.int .i64 0, .int .i64 2, .int .i64 4] 3)).drew from ((Below.refl _ _).alloc (Nat.le_refl _) _).drew)
            have HMO := Lib.hid (mode_at B M v k w4.heap.size 3 3 [0, 2, 4] (w4.alloc (.cells #[.int .i64 0, .int .i64 2, .int .i64 4] 3)).drew (HM4.out.below HBG.out) (by omega) (ints_new (ms := [0, 2, 4]) (show Blk _ w4.heap.size 3 #[.int .i64 0, .int .i64 2, .int .i64 4] from Blk.new w4 3 #[.int .i64 0, .int .i64 2, .int .i64 4])) rfl (by decide) (by decide))
            go_wp2_with fail
            have hSHl : w.heap.size < w4.heap.size := HS4.out.lt
            have hsd0 : w4.drew.cell? ⟨w.heap.size, 0, none⟩ = some (.int .i64 (v : Nat)) := s0
            have hsd1 : w4.drew.cell? ⟨w.heap.size, 1, none⟩ = some (.int .i64 (k : Nat)) := s1
            have hsd2 : w4.drew.cell? ⟨w.heap.size, 2, none⟩ = some (.bool false) := s2
            have hsd3 : w4.drew.cell? ⟨w.heap.size, 3, none⟩ = some (.bool false) := s3
            have HW7 := Lib.hid (fun (w' : World) (ho : Only (· = M) w4 w') => (show w'.cell? ⟨w.heap.size, 0, none⟩ = some (.int .i64 (v : Nat)) ∧ w'.cell? ⟨w.heap.size, 1, none⟩ = some (.int .i64 (k : Nat)) ∧ w'.cell? ⟨w.heap.size, 2, none⟩ = some (.bool false) ∧ w'.cell? ⟨w.heap.size, 3, none⟩ = some (.bool false) from by
              have hb := HS4.out.only ho (by omega)
              exact ⟨hb.cell 0, hb.cell 1, hb.cell 2, hb.cell 3⟩))
            have HK0 : Hid (w4.cell? ⟨w.heap.size, 0, none⟩ = some (.int .i64 (v : Nat)) ∧ w4.cell? ⟨w.heap.size, 1, none⟩ = some (.int .i64 (k : Nat)) ∧ w4.cell? ⟨w.heap.size, 2, none⟩ = some (.bool false) ∧ w4.cell? ⟨w.heap.size, 3, none⟩ = some (.bool false)) := Lib.hid ⟨s0, s1, s2, s3⟩
            have hSEk : w.heap.size ≠ wr.heap.size := by
              have := HST.out.shp.lt
              omega
            have HKD := Lib.hid (HW7.out w4.drew (Only.refl (· = M) w4).drew)
            have HK1 := Lib.hid (HW7.out (w4.alloc (.cells #[.int .i64 0, .int .i64 2, .int .i64 4] 3)).drew (Only.of_below HBG.out))
            clear s0 s1 s2 s3 hsd0 hsd1 hsd2 hsd3
            go_region_held3 (fun w' => w'.cell? ⟨w.heap.size, 0, none⟩ = some (.int .i64 (v : Nat)) ∧ w'.cell? ⟨w.heap.size, 1, none⟩ = some (.int .i64 (k : Nat)) ∧ w'.cell? ⟨w.heap.size, 2, none⟩ = some (.bool false) ∧ w'.cell? ⟨w.heap.size, 3, none⟩ = some (.bool false))
              (first
                | with_reducible exact HK0.out
                | with_reducible exact HKD.out
                | with_reducible exact HK1.out
                | with_reducible assumption
                | with_reducible exact sh_keep HSK.out hSEk _ _ _ _ _ _ _ _
                | go_keep)
              (first
                | (go_at_call 53; (with_reducible refine HMO.out.mono ?_); rintro e w6 ⟨m, rfl, hm, hm6, ho6⟩; have HO6 := Lib.hid ((Only.of_below (S := (· = M)) HBG.out).trans ho6); have HM6 := Lib.hid hm6; have hs6 := HO6.out.size; have HMM := Lib.hid hm; have hS6 := HW7.out w6 HO6.out; clear hm hm6 ho6)
                | (go_at_call 20; (with_reducible refine (HEX.out 1 1 rfl (by omega) w6 HO6.out HM6.out).mono ?_); rintro e w7 ⟨o7, m7, s7, a7, n7, c7, x7, rfl, hx, hmx, hm, ho⟩; have HO7 := Lib.hid (HO6.out.trans ho); have HX7 := Lib.hid (LX.mono (Q' := fun b => wr.heap.size < b) (by intro q hq _; have h1 : w6.heap.size ≤ q := hq; omega) _ hx); have HMX7 := Lib.hid hmx; have HM7 := Lib.hid hm; have hs7 := HO7.out.size; have hS7 := HW7.out w7 HO7.out; have HSK := Lib.hid (HS4.out.only HO7.out (by omega)); have HE7 := Lib.hid (HE4.out.only HO7.out (by omega)); have hl7 := HE7.out.lt; obtain ⟨x0, x1, x2, x3, x4, x5, x6, y0, y1, y2, y3, y4, y5, y6⟩ := seven_free HE7.out; clear hx hmx hm ho))
            all_goals
              go_wp2_with fail
              go_meet
              case rel =>
                refine ⟨rfl, ?_⟩
                rw [← HLC.out]
                exact one_args (rg := []) (by omega) (by omega) HO7.out HE7.out HM7.out rfl (by simp) (fun w8 h1 h2 h3 => arg_one HX7.out h1 h3) (.store (by simpa using HMM.out) hrj HMX7.out) (by simp)
          · have t2 : decide ((p : Int) < 8) = false := by simp <;> omega
            have t2' : decide (p < 8) = false := by simp <;> omega
            by_cases p8e : p = 8
            · have t3 : ((p : Int) == 8) = true := by simp <;> omega
              have t3' : (p == 8) = true := by simp <;> omega
              clear p8e
              have HBG := Lib.hid (show Below w4.heap.size w4 (w4.alloc (.cells #[.int .i64 0, .int .i64 1, .int .i64 2, .int .i64 3, .int .i64 4] 3)).drew from ((Below.refl _ _).alloc (Nat.le_refl _) _).drew)
              have HMO := Lib.hid (mode_at B M v k w4.heap.size 5 5 [0, 1, 2, 3, 4] (w4.alloc (.cells #[.int .i64 0, .int .i64 1, .int .i64 2, .int .i64 3, .int .i64 4] 3)).drew (HM4.out.below HBG.out) (by omega) (ints_new (ms := [0, 1, 2, 3, 4]) (show Blk _ w4.heap.size 3 #[.int .i64 0, .int .i64 1, .int .i64 2, .int .i64 3, .int .i64 4] from Blk.new w4 3 #[.int .i64 0, .int .i64 1, .int .i64 2, .int .i64 3, .int .i64 4])) rfl (by decide) (by decide))
              go_wp2_with fail
              have hSHl : w.heap.size < w4.heap.size := HS4.out.lt
              have hsd0 : w4.drew.cell? ⟨w.heap.size, 0, none⟩ = some (.int .i64 (v : Nat)) := s0
              have hsd1 : w4.drew.cell? ⟨w.heap.size, 1, none⟩ = some (.int .i64 (k : Nat)) := s1
              have hsd2 : w4.drew.cell? ⟨w.heap.size, 2, none⟩ = some (.bool false) := s2
              have hsd3 : w4.drew.cell? ⟨w.heap.size, 3, none⟩ = some (.bool false) := s3
              -- ADD
              have HW7 := Lib.hid (fun (w' : World) (ho : Only (· = M) w4 w') => (show w'.cell? ⟨w.heap.size, 0, none⟩ = some (.int .i64 (v : Nat)) ∧ w'.cell? ⟨w.heap.size, 1, none⟩ = some (.int .i64 (k : Nat)) ∧ w'.cell? ⟨w.heap.size, 2, none⟩ = some (.bool false) ∧ w'.cell? ⟨w.heap.size, 3, none⟩ = some (.bool false) from by
                have hb := HS4.out.only ho (by omega)
                exact ⟨hb.cell 0, hb.cell 1, hb.cell 2, hb.cell 3⟩))
              have HK0 : Hid (w4.cell? ⟨w.heap.size, 0, none⟩ = some (.int .i64 (v : Nat)) ∧ w4.cell? ⟨w.heap.size, 1, none⟩ = some (.int .i64 (k : Nat)) ∧ w4.cell? ⟨w.heap.size, 2, none⟩ = some (.bool false) ∧ w4.cell? ⟨w.heap.size, 3, none⟩ = some (.bool false)) := Lib.hid ⟨s0, s1, s2, s3⟩
              have hSEk : w.heap.size ≠ wr.heap.size := by
                have := HST.out.shp.lt
                omega
              have HKD := Lib.hid (HW7.out w4.drew (Only.refl (· = M) w4).drew)
              have HK1 := Lib.hid (HW7.out (w4.alloc (.cells #[.int .i64 0, .int .i64 1, .int .i64 2, .int .i64 3, .int .i64 4] 3)).drew (Only.of_below HBG.out))
              clear s0 s1 s2 s3 hsd0 hsd1 hsd2 hsd3
              go_region_held3 (fun w' => w'.cell? ⟨w.heap.size, 0, none⟩ = some (.int .i64 (v : Nat)) ∧ w'.cell? ⟨w.heap.size, 1, none⟩ = some (.int .i64 (k : Nat)) ∧ w'.cell? ⟨w.heap.size, 2, none⟩ = some (.bool false) ∧ w'.cell? ⟨w.heap.size, 3, none⟩ = some (.bool false))
                (first
                  | with_reducible exact HK0.out
                  | with_reducible exact HKD.out
                  | with_reducible exact HK1.out
                  | with_reducible assumption
                  | with_reducible exact sh_keep HSK.out hSEk _ _ _ _ _ _ _ _
                  | go_keep)
                (first
                  | (go_at_call 53; (with_reducible refine HMO.out.mono ?_); rintro e w6 ⟨m, rfl, hm, hm6, ho6⟩; have HO6 := Lib.hid ((Only.of_below (S := (· = M)) HBG.out).trans ho6); have HM6 := Lib.hid hm6; have hs6 := HO6.out.size; have HMM := Lib.hid hm; have hS6 := HW7.out w6 HO6.out; clear hm hm6 ho6)
                  | (go_at_call 20; (with_reducible refine (HEX.out 1 1 rfl (by omega) w6 HO6.out HM6.out).mono ?_); rintro e w7 ⟨o7, m7, s7, a7, n7, c7, x7, rfl, hx, hmx, hm, ho⟩; have HO7 := Lib.hid (HO6.out.trans ho); have HX7 := Lib.hid (LX.mono (Q' := fun b => wr.heap.size < b) (by intro q hq _; have h1 : w6.heap.size ≤ q := hq; omega) _ hx); have HMX7 := Lib.hid hmx; have HM7 := Lib.hid hm; have hs7 := HO7.out.size; have hS7 := HW7.out w7 HO7.out; have HSK := Lib.hid (HS4.out.only HO7.out (by omega)); have HE7 := Lib.hid (HE4.out.only HO7.out (by omega)); have hl7 := HE7.out.lt; obtain ⟨x0, x1, x2, x3, x4, x5, x6, y0, y1, y2, y3, y4, y5, y6⟩ := seven_free HE7.out; clear hx hmx hm ho))
              all_goals
                go_wp2_with fail
                go_meet
                case rel =>
                  refine ⟨rfl, ?_⟩
                  rw [← HRG.out, ← HLC.out]
                  exact one_args (by omega) (by omega) HO7.out HE7.out HM7.out rfl (by simp) (fun w8 h1 h2 h3 => arg_one HX7.out h1 h3) (.add (by have := HMM.out; simp at this; omega) hri hrj HMX7.out) (by simp)
            · have t3 : ((p : Int) == 8) = false := by simp <;> omega
              have t3' : (p == 8) = false := by simp <;> omega
              by_cases p9 : p = 9
              · have t4 : ((p : Int) == 9) = true := by simp <;> omega
                have t4' : (p == 9) = true := by simp <;> omega
                clear p9
                by_cases hd0 : 0 < d
                · have t5 : decide ((0 : Int) < (d : Int)) = true := by simp <;> omega
                  have t5' : decide (0 < d) = true := by simp <;> omega
                  -- IF
                  obtain ⟨d', hdd⟩ : ∃ d', d = d' + 1 := ⟨d - 1, by omega⟩
                  have IHd := Lib.hid (IH.out d' hdd)
                  have wd1 : (d : Int) - 1 = (d' : Int) := by omega
                  have HDD := Lib.hid hdd
                  clear hdd
                  have hSE : w.heap.size ≠ wr.heap.size := by
                    have := HST.out.shp.lt
                    omega
                  go_wp2_with fail
                  with_reducible refine (HEX.out 1 1 rfl (by omega) w4 (Only.refl _ _) HM4.out).mono ?_
                  rintro e w7 ⟨o7, m7, s7, a7, n7, c7, x7, rfl, hx, hmx, hm, ho⟩
                  have HO7 := Lib.hid ho
                  have HX7 := Lib.hid (LX.mono (Q' := fun b => wr.heap.size < b) (by intro q hq _; have h1 : w4.heap.size ≤ q := hq; omega) _ hx)
                  have HMX7 := Lib.hid hmx
                  have HM7 := Lib.hid hm
                  have HE7 := Lib.hid (HE4.out.only HO7.out (by omega))
                  have HS7 := Lib.hid (HS4.out.only HO7.out (by omega))
                  have hs7 := HO7.out.size
                  have hl7 := HE7.out.lt
                  obtain ⟨x0, x1, x2, x3, x4, x5, x6, y0, y1, y2, y3, y4, y5, y6⟩ := seven_free HE7.out
                  clear hx hmx hm ho
                  go_upto_region 18 with (fail)
                  have hif := if_args (c := 1) (v := v) (k := k) (by omega) (by omega) HO7.out HE7.out HM7.out HS7.out hSE (fun w8 h1 h2 h3 => arg_one HX7.out h1 h3)
                  simp only [put7w] at hif
                  clear x0 x1 x2 x3 x4 x5 x6 y0 y1 y2 y3 y4 y5 y6
                  generalize hw8 : World.alloc _ _ = w8 at hif ⊢
                  obtain ⟨hE8, hX8, hm8, ho8, hS8, hK8⟩ := hif
                  have HE8 := Lib.hid hE8
                  have HX8 := Lib.hid hX8
                  have HM8 := Lib.hid hm8
                  have HO8 := Lib.hid ho8
                  have HS8 := Lib.hid hS8
                  have hs8 := ho8.size
                  clear hE8 hX8 hm8 ho8 hS8 hw8
                  obtain ⟨s0, s1, s2, s3, _, _, _, _⟩ := four_free HS8.out
                  have HN8 := Lib.hid (HST.out.nms.keep (w' := w8) (fun g hg hl => by
                    have hgM := HQ.out _ g hg
                    have hE : g ≠ wr.heap.size := by omega
                    exact (HO8.out.block g (by omega) (fun e => e.elim hgM hE)).trans (HO4.out.block g hl hgM)))
                  go_wp2_with fail
                  with_reducible refine (IHd.out (NQ Q w.heap.size (.slice a1 n1 c1)) r (.slice a2 n2 c2) w8 HM8.out HN8.out (HQ.out _) (by have := HST.out.rlen; have := HDD.out; omega) HST.out.nil).mono ?_
                  rintro e w9 ⟨ta, tn, tc, na, nn, nc, th, r1, rfl, hss9, hn9, hms9, htl9, hrl9, hnil9, hm9, ho9⟩
                  have HSS9 := Lib.hid hss9
                  have HMS9 := Lib.hid hms9
                  have HTL9 := Lib.hid htl9
                  have HM9 := Lib.hid hm9
                  have HO9 := Lib.hid ho9
                  have HE9 := Lib.hid (HE8.out.only ho9 (by omega))
                  have HS9 := Lib.hid (HS8.out.only ho9 (by omega))
                  have HX9 := Lib.hid (lxs_only (M := M) HX8.out (by omega) ho9 (by intro b hb e; omega))
                  have hs9 := ho9.size
                  clear hss9 hn9 hms9 htl9 hrl9 hnil9 hm9 ho9
                  obtain ⟨x0, x1, x2, x3, x4, x5, x6, y0, y1, y2, y3, y4, y5, y6⟩ := seven_free HE9.out
                  go_wp2_with fail
                  clear x0 x1 x2 x3 x4 x5 x6 y0 y1 y2 y3 y4 y5 y6
                  have hp10 : Only (fun b => b = wr.heap.size) w9 (w9.setCell ⟨wr.heap.size, 5, none⟩ (.slice ta tn tc)) := (Only.refl (fun b => b = wr.heap.size) w9).setCell (p := ⟨wr.heap.size, 5, none⟩) (.inl rfl) _
                  have HE10 := Lib.hid (show Blk (w9.setCell ⟨wr.heap.size, 5, none⟩ (.slice ta tn tc)) wr.heap.size 45 #[.int .i64 7, .int .i64 0, .string ⟨#[]⟩, .string ⟨#[]⟩, .slice (some ⟨w7.heap.size, 0, none⟩) 1 1, .slice ta tn tc, .slice none 0 0] from HE9.out.set 5 _)
                  have HM10 := Lib.hid (HM9.out.only hp10 (fun g hg e => by omega))
                  have HS10 := Lib.hid (HS9.out.only hp10 hSE)
                  have HX10 := Lib.hid (lxs_only (M := M) HX9.out (by omega) hp10 (by intro b hb e; omega))
                  have HSS10 := Lib.hid (HSS9.out.step (Q' := fun b => wr.heap.size < b) (w' := w9.setCell ⟨wr.heap.size, 5, none⟩ (.slice ta tn tc)) (fun b hb hl => by have h1 : w8.heap.size ≤ b := hb; exact ⟨by omega, hp10.block b hl (by omega)⟩))
                  have HO10 := Lib.hid (show Only (fun b => b = M ∨ b = wr.heap.size) w4 (w9.setCell ⟨wr.heap.size, 5, none⟩ (.slice ta tn tc)) from (HO8.out.then HO9.out (fun b hb => .inl (.inl hb))).then hp10 (fun b hb => .inl (.inr hb)))
                  have hs10 := hp10.size
                  clear hp10
                  generalize w9.setCell ⟨wr.heap.size, 5, none⟩ (.slice ta tn tc) = w10 at *
                  with_reducible refine (pick_at B M 2 2 w10 HM10.out (by omega) (by omega) rfl).mono ?_
                  rintro e w11 ⟨r9, rfl, hr9, hm11, ho11⟩
                  have HE11 := Lib.hid (HE10.out.only ho11 (by omega))
                  have HS11 := Lib.hid (HS10.out.only ho11 (by omega))
                  have HX11 := Lib.hid (lxs_only (M := M) HX10.out (by omega) ho11 (by intro b hb e; omega))
                  have HSS11 := Lib.hid (HSS10.out.step (Q' := fun b => wr.heap.size < b) (w' := w11) (fun b hb hl => ⟨hb, ho11.block b hl (by omega)⟩))
                  have HM11 := Lib.hid hm11
                  have HO11 := Lib.hid (HO10.out.then ho11 (fun b hb => .inl (.inl hb)))
                  have hs11 := ho11.size
                  clear hm11 ho11
                  by_cases h91 : r9 = 1
                  · have q1 : ((r9 : Int) == 1) = true := by simp <;> omega
                    have q1' : (r9 == 1) = true := by simp <;> omega
                    clear h91
                    have HN11 := Lib.hid (HST.out.nms.keep (w' := w11) (fun g hg hl => by
                      have hgM := HQ.out _ g hg
                      have hE : g ≠ wr.heap.size := by omega
                      exact (HO11.out.block g (by omega) (fun e => e.elim hgM hE)).trans (HO4.out.block g hl hgM)))
                    clear s0 s1 s2 s3
                    obtain ⟨s0, s1, s2, s3, _, _, _, _⟩ := four_free HS11.out
                    go_wp2_with fail
                    with_reducible refine (IHd.out (NQ Q w.heap.size (.slice a1 n1 c1)) r (.slice a2 n2 c2) w11 HM11.out HN11.out (HQ.out _) (by have := HST.out.rlen; have := HDD.out; omega) HST.out.nil).mono ?_
                    rintro e w12 ⟨ea, en, ec, na, nn, nc, el, r2, rfl, hss12, hn12, hms12, htl12, hrl12, hnil12, hm12, ho12⟩
                    have HSS12 := Lib.hid hss12
                    have HMS12 := Lib.hid hms12
                    have HTL12 := Lib.hid htl12
                    have HM12 := Lib.hid hm12
                    have HE12 := Lib.hid (HE11.out.only ho12 (by omega))
                    have HX12 := Lib.hid (lxs_only (M := M) HX11.out (by omega) ho12 (by intro b hb e; omega))
                    have HST12 := Lib.hid (HSS11.out.step (Q' := fun b => wr.heap.size < b) (w' := w12) (fun b hb hl => ⟨hb, ho12.block b hl (by omega)⟩))
                    have HO12 := Lib.hid (HO11.out.then ho12 (fun b hb => .inl (.inl hb)))
                    have hs12 := ho12.size
                    clear hss12 hn12 hms12 htl12 hrl12 hnil12 hm12 ho12
                    obtain ⟨x0, x1, x2, x3, x4, x5, x6, y0, y1, y2, y3, y4, y5, y6⟩ := seven_free HE12.out
                    go_upto_region 21 with (fail)
                    clear x0 x1 x2 x3 x4 x5 x6 y0 y1 y2 y3 y4 y5 y6
                    have hp13 : Only (fun b => b = wr.heap.size) w12 (w12.setCell ⟨wr.heap.size, 6, none⟩ (.slice ea en ec)) := (Only.refl (fun b => b = wr.heap.size) w12).setCell (p := ⟨wr.heap.size, 6, none⟩) (.inl rfl) _
                    have HEZ := Lib.hid (show Blk (w12.setCell ⟨wr.heap.size, 6, none⟩ (.slice ea en ec)) wr.heap.size 45 #[.int .i64 7, .int .i64 0, .string ⟨#[]⟩, .string ⟨#[]⟩, .slice (some ⟨w7.heap.size, 0, none⟩) 1 1, .slice ta tn tc, .slice ea en ec] from HE12.out.set 6 _)
                    have HMZ := Lib.hid (HM12.out.only hp13 (fun g hg e => by omega))
                    have HOC := Lib.hid (show Only (fun b => b = M ∨ b = wr.heap.size) wr (w12.setCell ⟨wr.heap.size, 6, none⟩ (.slice ea en ec)) from (Only.then (S := fun b => b = M ∨ b = wr.heap.size) (Only.then (S := fun b => b = M ∨ b = wr.heap.size) (Only.refl _ _) HO4.out (fun b hb => .inl (.inl hb))) HO12.out (fun b hb => .inl hb)).then hp13 (fun b hb => .inl (.inr hb)))
                    have HLSZ := Lib.hid (show LS (fun b => wr.heap.size < b) (w12.setCell ⟨wr.heap.size, 6, none⟩ (.slice ea en ec)) (agg [.int .i64 7, .int .i64 0, .string ⟨#[]⟩, .string ⟨#[]⟩, .slice (some ⟨w7.heap.size, 0, none⟩) 1 1, .slice ta tn tc, .slice ea en ec]) (.mk 7 0 [] [] [x7] th el) from ls_if (by omega) (lxs_only (M := M) HX12.out (by omega) hp13 (by intro b hb e; omega)) (HST12.out.step (fun b hb hl => ⟨hb, hp13.block b hl (by omega)⟩)) (HSS12.out.step (fun b hb hl => by have h1 : w11.heap.size ≤ b := hb; exact ⟨by omega, hp13.block b hl (by omega)⟩)))
                    clear hp13
                    generalize w12.setCell ⟨wr.heap.size, 6, none⟩ (.slice ea en ec) = wz at *
                    obtain ⟨vals, hown0, hrows0⟩ := HST.out.out.keep lsStep HOC.out (fun b hb hl e => by rcases e with e | e <;> omega)
                    have HOWN := Lib.hid hown0
                    have HROWS := Lib.hid hrows0
                    have hsc := HOC.out.size
                    have vlen : l.length ≤ j := HST.out.len
                    clear hown0 hrows0
                    obtain ⟨x0, x1, x2, x3, x4, x5, x6, _, _, _, _, _, _, _⟩ := seven_free HEZ.out
                    go_wp2_with (at_builtin; refine wpList_append_lies _ rfl (.tmp 120) (.tmp 122) 42 rfl w.heap.size 45 i0 (.agg #[.int .i64 0, .int .i64 0, .string ⟨#[]⟩, .string ⟨#[]⟩, .slice none 0 0, .slice none 0 0, .slice none 0 0]) 7 120 Try.underlying42 HI.out HZ0.out HZ1.out HZ2.out rfl (by decide) (.slice a1 n1 c1) l.length vals rfl (HOWN.out.alloc _) ⟨wz.heap.size, 0, none⟩ 1 1 [.int .i64 7, .int .i64 0, .string ⟨#[]⟩, .string ⟨#[]⟩, .slice (some ⟨w7.heap.size, 0, none⟩) 1 1, .slice ta tn tc, .slice ea en ec] rfl rfl (seven_new _ _ _ _ _ _ _ _ _ _ _ _ _ _ _) (seven_one _ _ _ _ _ _ _ _ _ _ _ _ _) (by decide) (by unfold maxLen; omega) (by omega) (by simp; omega) (wz.heap.size + 1) (by simp) ?_; intro g5 cp5 w5 hown5 hgrow5 hat5 hlt5; have HF := Lib.hid (st_app HST.out hMB HQ0.out HOC.out HMZ.out HEZ.out HLSZ.out HOWN.out HROWS.out rfl hgrow5 hown5 hat5); clear hown5 hgrow5 hat5)
                    go_roundw
                    case rel =>
                      obtain ⟨f1, f2, f3, f4, f5, f6, f7⟩ := HF.out
                      exact ⟨_, _, _, _, _, _, j + 1, l ++ [.mk 7 0 [] [] [x7] th el], r, rfl, rfl, by go_num, by omega, f1, f2, .snoc HST.out.made (by rw [HDD.out]; exact .inr ⟨rfl, x7, th, el, r1, _, rfl, HMX7.out, HMS9.out, HTL9.out, HMS12.out, HTL12.out⟩), by simp; omega, by have := HST.out.rlen; omega, HST.out.nil, f3, f4, f5⟩
                    case measure => simp [intOf]; omega
                  · have q1 : ((r9 : Int) == 1) = false := by simp <;> omega
                    have q1' : (r9 == 1) = false := by simp <;> omega
                    clear h91
                    have HEZ := HE11
                    have HMZ := HM11
                    have HOC := Lib.hid (show Only (fun b => b = M ∨ b = wr.heap.size) wr w11 from Only.then (S := fun b => b = M ∨ b = wr.heap.size) (Only.then (S := fun b => b = M ∨ b = wr.heap.size) (Only.refl _ _) HO4.out (fun b hb => .inl (.inl hb))) HO11.out (fun b hb => .inl hb))
                    have HLSZ := Lib.hid (show LS (fun b => wr.heap.size < b) w11 (agg [.int .i64 7, .int .i64 0, .string ⟨#[]⟩, .string ⟨#[]⟩, .slice (some ⟨w7.heap.size, 0, none⟩) 1 1, .slice ta tn tc, .slice none 0 0]) (.mk 7 0 [] [] [x7] th []) from ls_if (by omega) HX11.out HSS11.out isSs_none)
                    obtain ⟨vals, hown0, hrows0⟩ := HST.out.out.keep lsStep HOC.out (fun b hb hl e => by rcases e with e | e <;> omega)
                    have HOWN := Lib.hid hown0
                    have HROWS := Lib.hid hrows0
                    have hsc := HOC.out.size
                    have vlen : l.length ≤ j := HST.out.len
                    clear hown0 hrows0
                    obtain ⟨x0, x1, x2, x3, x4, x5, x6, _, _, _, _, _, _, _⟩ := seven_free HEZ.out
                    go_wp2_with (at_builtin; refine wpList_append_lies _ rfl (.tmp 120) (.tmp 122) 42 rfl w.heap.size 45 i0 (.agg #[.int .i64 0, .int .i64 0, .string ⟨#[]⟩, .string ⟨#[]⟩, .slice none 0 0, .slice none 0 0, .slice none 0 0]) 7 120 Try.underlying42 HI.out HZ0.out HZ1.out HZ2.out rfl (by decide) (.slice a1 n1 c1) l.length vals rfl (HOWN.out.alloc _) ⟨w11.heap.size, 0, none⟩ 1 1 [.int .i64 7, .int .i64 0, .string ⟨#[]⟩, .string ⟨#[]⟩, .slice (some ⟨w7.heap.size, 0, none⟩) 1 1, .slice ta tn tc, .slice none 0 0] rfl rfl (seven_new _ _ _ _ _ _ _ _ _ _ _ _ _ _ _) (seven_one _ _ _ _ _ _ _ _ _ _ _ _ _) (by decide) (by unfold maxLen; omega) (by omega) (by simp; omega) (w11.heap.size + 1) (by simp) ?_; intro g5 cp5 w5 hown5 hgrow5 hat5 hlt5; have HF := Lib.hid (st_app HST.out hMB HQ0.out HOC.out HMZ.out HEZ.out HLSZ.out HOWN.out HROWS.out rfl hgrow5 hown5 hat5); clear hown5 hgrow5 hat5)
                    go_roundw
                    case rel =>
                      obtain ⟨f1, f2, f3, f4, f5, f6, f7⟩ := HF.out
                      exact ⟨_, _, _, _, _, _, j + 1, l ++ [.mk 7 0 [] [] [x7] th []], r, rfl, rfl, by go_num, by omega, f1, f2, .snoc HST.out.made (by rw [HDD.out]; exact .inr ⟨rfl, x7, th, [], r1, _, rfl, HMX7.out, HMS9.out, HTL9.out, .nil, Nat.zero_le _⟩), by simp; omega, by have := HST.out.rlen; omega, HST.out.nil, f3, f4, f5⟩
                    case measure => simp [intOf]; omega
                · have t5 : decide ((0 : Int) < (d : Int)) = false := by simp <;> omega
                  have t5' : decide (0 < d) = false := by simp <;> omega
                  have HBG := Lib.hid (show Below w4.heap.size w4 (w4.alloc (.cells #[.int .i64 0, .int .i64 1, .int .i64 2, .int .i64 3, .int .i64 4] 3)).drew from ((Below.refl _ _).alloc (Nat.le_refl _) _).drew)
                  have HMO := Lib.hid (mode_at B M v k w4.heap.size 5 5 [0, 1, 2, 3, 4] (w4.alloc (.cells #[.int .i64 0, .int .i64 1, .int .i64 2, .int .i64 3, .int .i64 4] 3)).drew (HM4.out.below HBG.out) (by omega) (ints_new (ms := [0, 1, 2, 3, 4]) (show Blk _ w4.heap.size 3 #[.int .i64 0, .int .i64 1, .int .i64 2, .int .i64 3, .int .i64 4] from Blk.new w4 3 #[.int .i64 0, .int .i64 1, .int .i64 2, .int .i64 3, .int .i64 4])) rfl (by decide) (by decide))
                  go_wp2_with fail
                  have hSHl : w.heap.size < w4.heap.size := HS4.out.lt
                  have hsd0 : w4.drew.cell? ⟨w.heap.size, 0, none⟩ = some (.int .i64 (v : Nat)) := s0
                  have hsd1 : w4.drew.cell? ⟨w.heap.size, 1, none⟩ = some (.int .i64 (k : Nat)) := s1
                  have hsd2 : w4.drew.cell? ⟨w.heap.size, 2, none⟩ = some (.bool false) := s2
                  have hsd3 : w4.drew.cell? ⟨w.heap.size, 3, none⟩ = some (.bool false) := s3
                  -- CAS
                  have HW7 := Lib.hid (fun (w' : World) (ho : Only (· = M) w4 w') => (show w'.cell? ⟨w.heap.size, 0, none⟩ = some (.int .i64 (v : Nat)) ∧ w'.cell? ⟨w.heap.size, 1, none⟩ = some (.int .i64 (k : Nat)) ∧ w'.cell? ⟨w.heap.size, 2, none⟩ = some (.bool false) ∧ w'.cell? ⟨w.heap.size, 3, none⟩ = some (.bool false) from by
                    have hb := HS4.out.only ho (by omega)
                    exact ⟨hb.cell 0, hb.cell 1, hb.cell 2, hb.cell 3⟩))
                  have HK0 : Hid (w4.cell? ⟨w.heap.size, 0, none⟩ = some (.int .i64 (v : Nat)) ∧ w4.cell? ⟨w.heap.size, 1, none⟩ = some (.int .i64 (k : Nat)) ∧ w4.cell? ⟨w.heap.size, 2, none⟩ = some (.bool false) ∧ w4.cell? ⟨w.heap.size, 3, none⟩ = some (.bool false)) := Lib.hid ⟨s0, s1, s2, s3⟩
                  have hSEk : w.heap.size ≠ wr.heap.size := by
                    have := HST.out.shp.lt
                    omega
                  have HKD := Lib.hid (HW7.out w4.drew (Only.refl (· = M) w4).drew)
                  have HK1 := Lib.hid (HW7.out (w4.alloc (.cells #[.int .i64 0, .int .i64 1, .int .i64 2, .int .i64 3, .int .i64 4] 3)).drew (Only.of_below HBG.out))
                  clear s0 s1 s2 s3 hsd0 hsd1 hsd2 hsd3
                  go_region_held3 (fun w' => w'.cell? ⟨w.heap.size, 0, none⟩ = some (.int .i64 (v : Nat)) ∧ w'.cell? ⟨w.heap.size, 1, none⟩ = some (.int .i64 (k : Nat)) ∧ w'.cell? ⟨w.heap.size, 2, none⟩ = some (.bool false) ∧ w'.cell? ⟨w.heap.size, 3, none⟩ = some (.bool false))
                    (first
                      | with_reducible exact HK0.out
                      | with_reducible exact HKD.out
                      | with_reducible exact HK1.out
                      | with_reducible assumption
                      | with_reducible exact sh_keep HSK.out hSEk _ _ _ _ _ _ _ _
                      | go_keep)
                    (first
                      | (go_at_call 53; (with_reducible refine HMO.out.mono ?_); rintro e w6 ⟨m, rfl, hm, hm6, ho6⟩; have HO6 := Lib.hid ((Only.of_below (S := (· = M)) HBG.out).trans ho6); have HM6 := Lib.hid hm6; have hs6 := HO6.out.size; have HMM := Lib.hid hm; have hS6 := HW7.out w6 HO6.out; clear hm hm6 ho6)
                      | (go_at_call 20; (with_reducible refine (HEX.out 0 0 rfl (by omega) w6 HO6.out HM6.out).mono ?_); rintro e w7 ⟨o7, m7, s7, a7, n7, c7, x7, rfl, hx, hmx, hm, ho⟩; have HO7 := Lib.hid (HO6.out.trans ho); have HX7 := Lib.hid (LX.mono (Q' := fun b => wr.heap.size < b) (by intro q hq _; have h1 : w6.heap.size ≤ q := hq; omega) _ hx); have HMX7 := Lib.hid hmx; have HM7 := Lib.hid hm; have hs7 := HO7.out.size; have hS7 := HW7.out w7 HO7.out; clear hx hmx hm ho)
                      | (go_at_call 20; (with_reducible refine (HEX.out 0 0 rfl (by omega) w7 HO7.out HM7.out).mono ?_); rintro e w8 ⟨o8, m8, s8, a8, n8, c8, x8, rfl, hx, hmx, hm, ho⟩; have HO8 := Lib.hid (HO7.out.trans ho); have HX8 := Lib.hid (LX.mono (Q' := fun b => wr.heap.size < b) (by intro q hq _; have h1 : w7.heap.size ≤ q := hq; omega) _ hx); have HMX8 := Lib.hid hmx; have HM8 := Lib.hid hm; have hs8 := HO8.out.size; have hS8 := HW7.out w8 HO8.out; have HSK := Lib.hid (HS4.out.only HO8.out (by omega)); have HE8 := Lib.hid (HE4.out.only HO8.out (by omega)); have hl8 := HE8.out.lt; obtain ⟨x0, x1, x2, x3, x4, x5, x6, y0, y1, y2, y3, y4, y5, y6⟩ := seven_free HE8.out; have HX7 := Lib.hid (HX7.out.keep (Keeps.only ho (by intro q hq e; omega))); clear hx hmx hm ho))
                  all_goals
                    go_wp2_with fail
                    go_meet
                    case rel =>
                      refine ⟨rfl, ?_⟩
                      rw [← HRG.out, ← HLC.out]
                      exact one_args (by omega) (by omega) HO8.out HE8.out HM8.out rfl (by simp) (fun w8 h1 h2 h3 => arg_two HX7.out HX8.out h1 h3) (.cas (by have := HMM.out; simp at this; omega) hri hrj HMX7.out HMX8.out) (by simp)
              · have t4 : ((p : Int) == 9) = false := by simp <;> omega
                have t4' : (p == 9) = false := by simp <;> omega
                by_cases p10 : p = 10
                · have t5 : ((p : Int) == 10) = true := by simp <;> omega
                  have t5' : (p == 10) = true := by simp <;> omega
                  clear p10
                  -- FENCE
                  go_wp2_with fail
                  have hbG : Below w4.heap.size w4 (w4.alloc (.cells #[.int .i64 1, .int .i64 2, .int .i64 3, .int .i64 4] 3)) := (Below.refl _ _).alloc (Nat.le_refl _) _
                  with_reducible refine (mode_at B M v k w4.heap.size 4 4 [1, 2, 3, 4] _ (HM4.out.below hbG) (by omega) (ints_new (ms := [1, 2, 3, 4]) (Blk.new w4 3 #[.int .i64 1, .int .i64 2, .int .i64 3, .int .i64 4])) rfl (by decide) (by decide)).mono ?_
                  rintro e w6 ⟨m, rfl, hm, hm6, ho6⟩
                  have HO6 := Lib.hid ((Only.of_below (S := (· = M)) hbG).trans ho6)
                  have HE6 := Lib.hid (HE4.out.only HO6.out (by omega))
                  have HM6 := Lib.hid hm6
                  have HMM := Lib.hid hm
                  obtain ⟨x0, x1, x2, x3, x4, x5, x6, y0, y1, y2, y3, y4, y5, y6⟩ := seven_free HE6.out
                  obtain ⟨z0, z1, z2, z3, _, _, _, _⟩ := four_free (HS4.out.only HO6.out (by omega))
                  have hSE : ¬ w.heap.size = wr.heap.size := by
                    intro e9
                    have := HST.out.shp.lt
                    omega
                  have hSE' : ¬ wr.heap.size = w.heap.size := fun e9 => hSE e9.symm
                  clear hbG hm hm6 ho6
                  go_wp2_with fail
                  go_meet
                  case rel =>
                    refine ⟨rfl, ?_⟩
                    exact one_none (rg := []) (lc := []) (by omega) (by omega) HO6.out HE6.out HM6.out (.fence (by have := HMM.out; simp at this; omega) (by have := HMM.out; simp at this; omega)) (by simp)
                · have t5 : ((p : Int) == 10) = false := by simp <;> omega
                  have t5' : (p == 10) = false := by simp <;> omega
                  -- SET
                  have s0' := s0
                  go_wp2_with fail
                  with_reducible refine (HEX.out 2 2 rfl (by omega) w4 (Only.refl _ _) HM4.out).mono ?_
                  rintro e w7 ⟨o7, m7, s7, a7, n7, c7, x7, rfl, hx, hmx, hm, ho⟩
                  have HO7 := Lib.hid ho
                  have HX7 := Lib.hid (LX.mono (Q' := fun b => wr.heap.size < b) (by intro q hq _; have h1 : w4.heap.size ≤ q := hq; omega) _ hx)
                  have HMX7 := Lib.hid hmx
                  have HM7 := Lib.hid hm
                  have HE7 := Lib.hid (HE4.out.only HO7.out (by omega))
                  have hl7 := HE7.out.lt
                  obtain ⟨x0, x1, x2, x3, x4, x5, x6, y0, y1, y2, y3, y4, y5, y6⟩ := seven_free HE7.out
                  clear hx hmx hm ho
                  go_wp2_with fail
                  go_meet
                  case rel =>
                    refine ⟨rfl, ?_⟩
                    rw [← HRG.out]
                    exact one_args (lc := []) (by omega) (by omega) HO7.out HE7.out HM7.out rfl (by simp) (fun w8 h1 h2 h3 => arg_one HX7.out h1 h3) (.set hri HMX7.out) (by simp)
      case rest =>
        obtain ⟨rfl, kd, md, rg, lc, b1, m1, d1, b2, m2, d2, b3, m3, d3, s, r2, hE, hls, hm0, hr2, hmk, hoc⟩ := hcut
        have HM0 := Lib.hid hm0
        have HR2 := Lib.hid hr2
        have HOC := Lib.hid (show Only (fun b => b = M ∨ b = wr.heap.size) wr wc from (Only.then (S := fun b => b = M ∨ b = wr.heap.size) (Only.then (S := fun b => b = M ∨ b = wr.heap.size) (Only.refl _ _) HO4.out (fun b hb => .inl (.inl hb))) hoc (fun b hb => .inl hb)))
        have HE := Lib.hid hE
        have HLS := Lib.hid hls
        have HMK := Lib.hid hmk
        have hsc := HOC.out.size
        obtain ⟨vals, hown0, hrows0⟩ := HST.out.out.keep lsStep HOC.out (fun b hb hl e => by rcases e with e | e <;> omega)
        have HOWN := Lib.hid hown0
        have HROWS := Lib.hid hrows0
        have hE7 := (show _ ∧ _ ∧ _ ∧ _ ∧ _ ∧ _ ∧ _ from ⟨hE.cell 0, hE.cell 1, hE.cell 2, hE.cell 3, hE.cell 4, hE.cell 5, hE.cell 6⟩)
        obtain ⟨q0, q1, q2, q3, q4, q5, q6⟩ := hE7
        have q0' : wc.cell? ⟨wr.heap.size, 0, none⟩ = some (.int .i64 kd) := q0
        have q1' : wc.cell? ⟨wr.heap.size, 1, none⟩ = some (.int .i64 md) := q1
        have q2' : wc.cell? ⟨wr.heap.size, 2, none⟩ = some (.string (bs rg)) := q2
        have q3' : wc.cell? ⟨wr.heap.size, 3, none⟩ = some (.string (bs lc)) := q3
        have q4' : wc.cell? ⟨wr.heap.size, 4, none⟩ = some (.slice b1 m1 d1) := q4
        have q5' : wc.cell? ⟨wr.heap.size, 5, none⟩ = some (.slice b2 m2 d2) := q5
        have q6' : wc.cell? ⟨wr.heap.size, 6, none⟩ = some (.slice b3 m3 d3) := q6
        clear hE hls hm0 hr2 hmk hoc hown0 hrows0 q0 q1 q2 q3 q4 q5 q6 HE4 HS4 HO4 HM4
        generalize hY : bs lc = Y at *
        clear hY
        have vlen : l.length ≤ j := HST.out.len
        by_cases hrg : rg = []
        · subst hrg
          obtain rfl : r2 = r := by rw [HR2.out, if_pos rfl]
          have me1 : (bs ([] : List UInt8)).toList = [] := by rw [toList_by, by_bs]
          have me3 : (bs ([] : List UInt8)).toList.isEmpty = true := by rw [me1]; rfl
          go_wp2_with (at_builtin; refine wpList_append_lies _ rfl (.tmp 155) (.tmp 157) 42 rfl w.heap.size 45 i0 (.agg #[.int .i64 0, .int .i64 0, .string ⟨#[]⟩, .string ⟨#[]⟩, .slice none 0 0, .slice none 0 0, .slice none 0 0]) 7 120 Try.underlying42 HI.out HZ0.out HZ1.out HZ2.out rfl (by decide) (.slice a1 n1 c1) l.length vals rfl (HOWN.out.alloc _) ⟨wc.heap.size, 0, none⟩ 1 1 [.int .i64 kd, .int .i64 md, .string (bs []), .string Y, .slice b1 m1 d1, .slice b2 m2 d2, .slice b3 m3 d3] rfl rfl (seven_new _ _ _ _ _ _ _ _ _ _ _ _ _ _ _) (seven_one _ _ _ _ _ _ _ _ _ _ _ _ _) (by decide) (by unfold maxLen; omega) (by omega) (by simp; omega) (wc.heap.size + 1) (by simp) ?_; intro g5 cp5 w5 hown5 hgrow5 hat5 hlt5; have HF := Lib.hid (st_app HST.out hMB HQ0.out HOC.out HMK.out HE.out HLS.out HOWN.out HROWS.out rfl hgrow5 hown5 hat5); have hc5 : w5.cell? ⟨wr.heap.size, 2, none⟩ = some (.string (bs [])) := HF.out.2.2.2.2.2.1.cell 2; clear hown5 hgrow5 hat5)
          go_roundw
          case rel =>
            obtain ⟨f1, f2, f3, f4, f5, f6, f7⟩ := HF.out
            exact ⟨_, _, _, _, _, _, j + 1, l ++ [s], _, rfl, rfl, by go_num, by omega, f1, f2, .snoc HST.out.made (HM0.out.ms d), by simp; omega, by have := HST.out.rlen; omega, HST.out.nil, f3, f4, f5⟩
          case measure => simp [intOf]; omega
        · have HW := Lib.hid (show r2 = wth r rg by rw [HR2.out, if_neg hrg])
          have hne : (bs rg).toList = [] ↔ False := by
            rw [toList_by, by_bs]
            simp [hrg]
          generalize hX : bs rg = X at *
          have HX := Lib.hid hX
          have ne1 : ¬ X.toList = [] := by simpa using hne
          have ne2 : (X.toList == []) = false := by simpa using ne1
          have ne3 : X.toList.isEmpty = false := by simpa using ne1
          clear hX hne hrg
          go_wp2_with (at_builtin; refine wpList_append_lies _ rfl (.tmp 155) (.tmp 157) 42 rfl w.heap.size 45 i0 (.agg #[.int .i64 0, .int .i64 0, .string ⟨#[]⟩, .string ⟨#[]⟩, .slice none 0 0, .slice none 0 0, .slice none 0 0]) 7 120 Try.underlying42 HI.out HZ0.out HZ1.out HZ2.out rfl (by decide) (.slice a1 n1 c1) l.length vals rfl (HOWN.out.alloc _) ⟨wc.heap.size, 0, none⟩ 1 1 [.int .i64 kd, .int .i64 md, .string X, .string Y, .slice b1 m1 d1, .slice b2 m2 d2, .slice b3 m3 d3] rfl rfl (seven_new _ _ _ _ _ _ _ _ _ _ _ _ _ _ _) (seven_one _ _ _ _ _ _ _ _ _ _ _ _ _) (by decide) (by unfold maxLen; omega) (by omega) (by simp; omega) (wc.heap.size + 1) (by simp) ?_; intro g5 cp5 w5 hown5 hgrow5 hat5 hlt5; have HF := Lib.hid (st_app HST.out hMB HQ0.out HOC.out HMK.out HE.out HLS.out HOWN.out HROWS.out rfl hgrow5 hown5 hat5); have hc5 : w5.cell? ⟨wr.heap.size, 2, none⟩ = some (.string X) := HF.out.2.2.2.2.2.1.cell 2; clear hown5 hgrow5 hat5)
          have hw := with_any r rg (NQ Q w.heap.size (.slice (some ⟨g5, 0, none⟩) (l.length + 1) cp5)) _ w5 HF.out.2.1 (by have := HST.out.rlen; omega) HST.out.nil
          rw [HX.out] at hw
          with_reducible refine hw.mono ?_
          rintro e w6 ⟨v6, rfl, hn6, hb6⟩
          obtain ⟨a6, k6, rfl, _⟩ := (show ∃ a c, v6 = .slice a (wth r rg).length c ∧ True from by obtain ⟨a, c, h, _⟩ := hn6; exact ⟨a, c, h, trivial⟩)
          have HN6 := Lib.hid hn6
          have HB6 := Lib.hid hb6
          clear hw hn6 hb6
          go_wp2_with fail
          go_roundw
          case rel =>
            obtain ⟨f1, f2, f3, f4, f5, f6, f7⟩ := HF.out
            have hw1 := P.wth_len r rg
            refine ⟨_, _, _, _, _, _, j + 1, l ++ [s], wth r rg, rfl, rfl, by go_num, by omega, f1.below lsStep HB6.out, HN6.out.mono ?_, .snoc HST.out.made (by rw [← HW.out]; exact HM0.out.ms d), by simp; omega, by have := HST.out.rlen; omega, ?_, f3.below HB6.out, f4.trans (Only.of_below HB6.out), f5.live' HB6.out⟩
            · intro g hg hgl
              rcases hg with hg | hg
              · exact hg
              · refine .inr ⟨by have := f4.size; omega, fun e => ?_⟩
                have e' : g5 = g := Option.some.inj e
                omega
            · intro e0
              exact absurd e0 (wth_ne r rg)
          case measure => simp [intOf]; omega
    · obtain rfl : j = n := by omega
      go_wp2_with fail
      go_ret2
      obtain ⟨b1, b2, b3, b4, b5, b6, b7, b8, _⟩ := HST.out
      exact ⟨_, _, _, _, _, _, l, r, rfl, b1.isSs, b2.mono (fun g hg _ => hg.elim (fun x => .inl x.1) (fun x => .inr x.1)), b3, b4, b5, b6, b7, b8⟩
theorem stmts_any (B M v k : Nat) (hv1 : 1 ≤ v) (hv : v ≤ 9) (hk1 : 1 ≤ k) (hk : k ≤ 4) (n : Nat) (hn : n ≤ 100) : ∀ (d : Nat) (Q : Nat → Prop) (rs : List (List UInt8)) (vr : Value) (w : World), d ≤ 6 → Mk B w M → Nms Q w vr rs → (∀ g, Q g → g ≠ M) → rs.length + 100 * (d + 1) ≤ 800 → (rs = [] → vr = .slice none 0 0) →
    ∀ m, m ≤ 100 → Calls Try.prog 37 #[.pointer (some ⟨M, 0, none⟩), .agg #[.int .i64 (v : Nat), .int .i64 (k : Nat), .bool false, .bool false], .int .i64 (m : Nat), .int .i64 (d : Nat), vr] w (StTo Q B M v k d m rs w)
  | 0, Q, rs, vr, w, hd, h, hr, hq, hl, hnil, m, hm => stmts_step Q B M v k hv1 hv hk1 hk m 0 rs vr w hm (by omega) h hr hq hl hnil (fun d' e => by omega)
  | d + 1, Q, rs, vr, w, hd, h, hr, hq, hl, hnil, m, hm => stmts_step Q B M v k hv1 hv hk1 hk m (d + 1) rs vr w hm (by omega) h hr hq hl hnil (fun d' e Q rs vr w h1 h2 h3 h4 h5 => by
    obtain rfl : d = d' := by omega
    exact stmts_any B M v k hv1 hv hk1 hk n hn d Q rs vr w (by omega) h1 h2 h3 h4 h5 1 (by omega))
end Go.Proofs.Ytlgnagmmljdkiab.Lx
