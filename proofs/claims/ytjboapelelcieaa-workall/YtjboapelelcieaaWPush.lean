/-
  What pile.Push and pile.Pop do, as contracts.
-/
import Derived.Test.YtjboapelelcieaaWUp
import Derived.Deep.RegionLaw
import Derived.Deep.AppendLies
namespace Go.Proofs.Ytjboapelelcieaa.Wk
open Go.RowKit
set_option linter.unusedVariables false
set_option linter.unusedSimpArgs false
theorem Try.infoT : (Try.prog.info? 49).map (fun i => (i.zero, i.size, i.bytes)) = some (some (.agg #[.int .i64 0, .int .i64 0, .int .i64 0]), 3, 24) := by kernel_rfl
/-- A queue at Q whose pile's value is v. -/
def Qv (w : World) (Q : Nat) (v pv kv : Value) : Prop := Blk w Q 45 #[v, pv, kv]
/-- A thing as a value. -/
abbrev tval (t : Th) : Value := .agg #[.int .i64 t.n, .int .i64 t.key, .int .i64 t.turn]
theorem assert_thing (a b c : Int) (w : World) : (Instr.typeAssert (.iface 49 (.agg #[.int .i64 a, .int .i64 b, .int .i64 c])) 20 49 false).run Try.prog w = .ok (.agg #[.int .i64 a, .int .i64 b, .int .i64 c]) w := by kernel_rfl
/-- What a pile is behind one thing more: a row of all, in its old block or a new one. -/
def Pushed (Q base : Nat) (ts : List Th) (t : Th) (v pv kv : Value) (w : World) (e : Ending) (w' : World) : Prop :=
  e = .returned (.tuple #[]) ∧ ∃ g cap, Qv w' Q (.slice (some ⟨g, 0, none⟩) (ts.length + 1) cap) pv kv ∧ w'.ownsRow base 49 3 (.slice (some ⟨g, 0, none⟩) (ts.length + 1) cap) (ts.length + 1) (flat (ts ++ [t])) ∧
    (v.ownBlock = some g ∨ w.heap.size ≤ g) ∧ Only (fun k => k = Q ∨ v.ownBlock = some k) w w'
theorem own_ad {w : World} {base : Nat} {t : TypeId} {size n : Nat} {v : Value} {xs : List Value} (h : w.ownsRow base t size v n xs) (o : Obj) : (w.alloc o).drew.ownsRow base t size v n xs := h.alloc o
theorem three_one (a b c : Int) : ∀ u ∈ [Value.int .i64 a, .int .i64 b, .int .i64 c], u.oneCell' = true := by
  intro u hu
  simp at hu
  rcases hu with rfl | rfl | rfl <;> rfl
theorem news3 (w : World) (a b c : Int) (t : TypeId) : ∀ j u, [Value.int .i64 a, .int .i64 b, .int .i64 c][j]? = some u → (w.alloc (.cells #[.int .i64 a, .int .i64 b, .int .i64 c] t)).drew.cell? ((⟨w.heap.size, 0, none⟩ : Addr).add j) = some u :=
  World.news_of_block (w := (w.alloc (.cells #[.int .i64 a, .int .i64 b, .int .i64 c] t)).drew) (heap_alloc_new w _)
theorem size_ad (w : World) (o : Obj) : (w.alloc o).drew.heap.size = w.heap.size + 1 := by simp
theorem pushed_of {Q base g cap : Nat} {ts : List Th} {t : Th} {v pv kv : Value} {w w1 : World} (hQ : Qv w Q v pv kv) (hown : w.ownsRow base 49 3 v ts.length (flat ts)) (hbase : base ≤ w.heap.size)
    (hown1 : w1.ownsRow base 49 3 (.slice (some ⟨g, 0, none⟩) (ts.length + 1) cap) (ts.length + 1) (flat ts ++ [.int .i64 t.n, .int .i64 t.key, .int .i64 t.turn])) (o : Obj) (hg : (w.alloc o).drew.grownBy w1 v.ownBlock) (hat : v.ownBlock = some g ∨ g = w.heap.size + 1) :
    Pushed Q base ts t v pv kv w (.returned (.tuple #[])) (w1.setCell ⟨Q, 0, none⟩ (.slice (some ⟨g, 0, none⟩) (ts.length + 1) cap)) := by
  have hQ1 : Qv w1 Q v pv kv := (hg.block Q (by have := Blk.lt hQ; simp; omega) (fun e => own_ne hown hQ (by decide) e.symm)).trans (Blk.alloc hQ o)
  refine ⟨rfl, g, cap, ?_, ?_, ?_, ?_⟩
  · exact Blk.set hQ1 0 _
  · have e : flat (ts ++ [t]) = flat ts ++ [.int .i64 t.n, .int .i64 t.key, .int .i64 t.turn] := by
      rw [flat_app]
      rfl
    rw [e]
    exact ownsRow_setCell_other (a := ⟨Q, 0, none⟩) hown1 (own_ne (t' := 45) hown1 hQ1 (by decide)) _
  · rcases hat with h | h
    · exact .inl h
    · exact .inr (by omega)
  · exact (((Only.refl _ w).alloc o).drew.grown hg (fun k hk => .inl (.inr hk))).setCell (.inl (.inl rfl)) _
set_option maxHeartbeats 800000 in
theorem ppush_any (Q base : Nat) (ts : List Th) (t : Th) (v pv kv : Value) (w : World) (hQ : Qv w Q v pv kv) (hown : w.ownsRow base 49 3 v ts.length (flat ts)) (hbase : base ≤ w.heap.size) (hs : ts.length ≤ 1000000000) :
    Calls Try.prog 42 #[.pointer (some ⟨Q, 0, none⟩), .iface 49 (.agg #[.int .i64 t.n, .int .i64 t.key, .int .i64 t.turn])] w (Pushed Q base ts t v pv kv w) := by
  obtain ⟨i0, hi, hz0, hz1, hz2⟩ := info_parts Try.infoT
  have HI := Lib.hid hi
  have HZ0 := Lib.hid hz0
  have HZ1 := Lib.hid hz1
  have HZ2 := Lib.hid hz2
  clear hi hz0 hz1 hz2
  have c0 : w.cell? ⟨Q, 0, none⟩ = some v := Blk.cell hQ 0
  have f0 : w.frozen? ⟨Q, 0, none⟩ = false := Blk.free hQ 0
  have hlt := Blk.lt hQ
  have HP := Lib.hid fun g cap w1 => pushed_of (g := g) (cap := cap) (t := t) (w1 := w1) hQ hown hbase
  have HNE := Lib.hid (own_ne hown hQ (by decide))
  have ta := assert_thing t.n t.key t.turn
  obtain ⟨a, c, rfl⟩ := slice_of_own hown
  generalize ht : t = t' at *
  obtain ⟨tn, tk, tt⟩ := t
  subst ht
  simp only at *
  go_enter Try.func42, Try.ntmps42
  go_wp2
  go_region_law
    ((refine step_append_lies _ (by rfl) (.tmp 7) (.tmp 10) 43 (by rfl) base 49 i0 (.agg #[.int .i64 0, .int .i64 0, .int .i64 0]) 3 24 Try.underlying43 HI.out HZ0.out HZ1.out HZ2.out rfl (by omega) _ ts.length (flat ts) (by rfl) (own_ad hown _) ⟨w.heap.size, 0, none⟩ 1 1 [.int .i64 tn, .int .i64 tk, .int .i64 tt] (by rfl) rfl (news3 w tn tk tt _) (three_one _ _ _) (by omega) (by unfold maxLen; omega) (by omega) (by simp; omega) (w.heap.size + 1) (size_ad w _) ?_; intro g cap w1 hown1 hgrow1 hat1 hlt1; have hQ1 : Qv w1 Q _ pv kv := (hgrow1.block Q (by have := Blk.lt hQ; simp; omega) (fun e => HNE.out e.symm)).trans (Blk.alloc hQ _); have hk1 : w1.cell? ⟨Q, 0, none⟩ = some (.slice a ts.length c) := Blk.cell hQ1 0; have hf1 : w1.frozen? ⟨Q, 0, none⟩ = false := Blk.free hQ1 0))
  all_goals
    go_end0
    exact HP.out g cap w1 hown1 _ hgrow1 hat1
theorem Row.take_n {w : World} {t : TypeId} {g cap : Nat} {ts : List Th} {cur : Array Value} (h : Row w t g cap ts cur) (n : Nat) (hn : n ≤ ts.length) : Row w t g cap (ts.take n) cur := by
  have e : ((ts.take n).length) = n := by simp; omega
  refine ⟨h.blk, by have := h.fit; omega, h.max, h.size, ?_⟩
  rw [e]
  have h1 : cur.toList.take (n * 3) = (cur.toList.take (ts.length * 3)).take (n * 3) := by
    rw [List.take_take, Nat.min_eq_left (by omega)]
  rw [h1, h.take]
  have h2 : flat ts = flat (ts.take n) ++ flat (ts.drop n) := by rw [← flat_app, List.take_append_drop]
  rw [h2]
  exact List.take_left' (by rw [flat_len, e])
theorem Row.far {w : World} {t : TypeId} {g cap : Nat} {ts : List Th} {cur : Array Value} (h : Row w t g cap ts cur) {p : Addr} (hp : g ≠ p.block) (u : Value) : Row (w.setCell p u) t g cap ts cur := ⟨h.blk.far hp u, h.fit, h.max, h.size, h.take⟩
theorem Row.alloc {w : World} {t : TypeId} {g cap : Nat} {ts : List Th} {cur : Array Value} (h : Row w t g cap ts cur) (o : Obj) : Row (w.alloc o) t g cap ts cur := ⟨h.blk.alloc o, h.fit, h.max, h.size, h.take⟩
/-- What a pile is behind one thing less: the last one. -/
def Popped (Q g cap n : Nat) (ts : List Th) (pv kv : Value) (w : World) (e : Ending) (w' : World) : Prop :=
  e = .returned (.iface 49 (tval (tat ts n))) ∧ At w' Q g n cap pv kv ∧ Lies w' g cap (ts.take n) ∧ Only (· = Q) w w'
theorem popped_of {Q g cap n : Nat} {ts : List Th} {cur : Array Value} {pv kv : Value} {w : World} (hQ : At w Q g ts.length cap pv kv) (hR : Row w 49 g cap ts cur) (hn : n ≤ ts.length) (o : Obj) :
    Popped Q g cap n ts pv kv w (.returned (.iface 49 (tval (tat ts n)))) ((w.setCell ⟨Q, 0, none⟩ (.slice (some ⟨g, 0, none⟩) n cap)).alloc o) := by
  have hne := hQ.ne ⟨cur, hR⟩
  refine ⟨rfl, ?_, ⟨cur, ((hR.take_n n hn).far (p := ⟨Q, 0, none⟩) (Ne.symm hne) _).alloc o⟩, ?_⟩
  · exact Blk.alloc (Blk.set hQ 0 _) o
  · exact ((Only.refl (· = Q) w).setCell (.inl rfl) _).alloc o
set_option maxHeartbeats 800000 in
theorem ppop_any (Q g cap n : Nat) (ts : List Th) (cur : Array Value) (pv kv : Value) (w : World) (hQ : At w Q g ts.length cap pv kv) (hR : Row w 49 g cap ts cur) (hn : ts.length = n + 1) (hs : ts.length ≤ 1000000000) :
    Calls Try.prog 41 #[.pointer (some ⟨Q, 0, none⟩)] w (Popped Q g cap n ts pv kv w) := by
  have HP := Lib.hid (popped_of (n := n) hQ hR (by omega))
  have c0 := hQ.cell
  have f0 : w.frozen? ⟨Q, 0, none⟩ = false := Blk.free hQ 0
  have hlt := Blk.lt hQ
  have hgl := Blk.lt hR.blk
  obtain ⟨d0, d1, d2⟩ := hR.cells n (by omega)
  have hd : (ts.length : Int) - 1 = (n : Int) := by omega
  have hcap := hR.fit
  have hmax := hR.max
  unfold maxLen at hmax
  have hn' : n < ts.length := by omega
  have hn2 : n ≤ cap := by omega
  clear hn hR hQ
  generalize htn : tat ts n = t' at *
  have HTN := Lib.hid htn
  clear htn
  generalize ht : t' = t at *
  obtain ⟨tn, tk, tt⟩ := t'
  subst ht
  simp only at *
  go_enter Try.func41, Try.ntmps41
  go_wp2
  go_ret
  exact HP.out _
end Go.Proofs.Ytjboapelelcieaa.Wk
