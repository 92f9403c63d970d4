/-
  What the developers' cursor keeps of its parts: part, as a contract.
-/
import Derived.Test.YtgobcflfhabdhaaGreatDoorDB
import Derived.Test.YtgobcflfhabdhaaGreatDoorPPlc
import Derived.Deep.RegionLaw
import Derived.Deep.AppendLies
namespace Go.Proofs.YtgobcflfhabdhaaGreatDoor.Lx
open Go.RowKit
open L (Tok)
set_option maxRecDepth 100000
set_option linter.unusedVariables false
set_option linter.unusedSimpArgs false
theorem Tryz.infoInt : (Tryz.prog.info? 3).map (fun i => (i.zero, i.size, i.bytes)) = some (some (.int .i64 0), 1, 8) := by kernel_rfl
/-- The blocks that turn while a cursor goes on: its own, and that of its places. -/
def Pb (C : Nat) (pv : Value) (b : Nat) : Prop := b = C ∨ pv.ownBlock = some b
/-- The places lie where they lay, or in new memory. -/
def Fr (pv pv' : Value) (n : Nat) : Prop := ∀ k, pv'.ownBlock = some k → pv.ownBlock = some k ∨ n ≤ k
theorem Fr.refl (pv : Value) (n : Nat) : Fr pv pv n := fun _ h => .inl h
theorem Fr.trans {a b c : Value} {n m : Nat} (h : Fr a b n) (k : Fr b c m) (hn : n ≤ m) : Fr a c n := fun j hj => by
  rcases k j hj with h1 | h1
  · exact h j h1
  · exact .inr (by omega)
theorem Only.grown' {S : Nat → Prop} {a b c : World} (h : Only S a b) {row : Option Nat} (hg : b.grownBy c row) (hr : ∀ k, row = some k → S k ∨ a.heap.size ≤ k) : Only S a c :=
  ⟨hg.os.trans h.os, hg.tape.trans h.tape, hg.output.trans h.output, Nat.le_trans h.size hg.size, fun k hk hn =>
    (hg.block k (Nat.lt_of_lt_of_le hk h.size) (fun e => by
      rcases hr k e.symm with h1 | h1
      · exact hn h1
      · omega)).trans (h.block k hk hn)⟩
theorem one_new (w : World) (n : Int) (t : TypeId) : ∀ j u, [Value.int .i64 n][j]? = some u → (w.alloc (.cells #[.int .i64 n] t)).cell? ((⟨w.heap.size, 0, none⟩ : Addr).add j) = some u := by
  intro j u hu
  match j with
  | 0 =>
    have e : u = .int .i64 n := by simpa using hu.symm
    subst e
    exact (Blk.new w t #[.int .i64 n]).cell 0
  | j + 1 => simp at hu
theorem one_one (n : Int) : ∀ u ∈ [Value.int .i64 n], u.oneCell' = true := by
  intro u hu
  simp at hu
  subst hu
  rfl
theorem below_drew {w w' : World} {n k : Nat} (h : Below n (w.drewN k) w') : Below n w w' := ⟨h.os, h.tape, h.output, h.size, h.block⟩
theorem next_dN (C g : Nat) (TS : List Tok) (pv : Value) (st : Sta) (w : World) (h : Dc w C g TS pv st) (n : Nat) :
    Calls Tryz.prog 81 #[.pointer (some ⟨C, 0, none⟩)] (w.drewN n) (NextD st w) :=
  (next_d C g TS pv st (w.drewN n) (h.drewN n)).mono fun _ _ ⟨a, b⟩ => ⟨a, below_drew b⟩
theorem next_d1 (C g : Nat) (TS : List Tok) (pv : Value) (st : Sta) (w : World) (h : Dc w C g TS pv st) :
    Calls Tryz.prog 81 #[.pointer (some ⟨C, 0, none⟩)] w.drew (NextD st w) :=
  (next_d C g TS pv st w.drew h.drew).mono fun _ _ ⟨a, b⟩ => ⟨a, ⟨b.os, b.tape, b.output, b.size, b.block⟩⟩
def PartD (C g base : Nat) (TS : List Tok) (pv : Value) (ps : List Nat) (st : Sta) (w : World) (e : Ending) (w' : World) : Prop :=
  ∃ pv', e = .returned (.tuple #[]) ∧ Dc w' C g TS pv' st ∧ OwnP w' base pv' (ps ++ [(nxt st).at']) ∧ Only (Pb C pv) w w' ∧ Fr pv pv' w.heap.size
theorem part_of {C g base : Nat} {TS : List Tok} {pv : Value} {ps : List Nat} {st : Sta} {w w1 w2 : World} (h : Dc w C g TS pv st) (hp : OwnP w base pv ps) (hg : g < base) (hbl : Below w.heap.size w w1) {o : Obj} (hgr : (w1.alloc o).grownBy w2 pv.ownBlock)
    {g2 cap : Nat} {n : Int} (ho : w2.ownsRow base 3 1 (.slice (some ⟨g2, 0, none⟩) (ps.length + 1) cap) (ps.length + 1) (nums ps ++ [.int .i64 n])) (hn : (((nxt st).at' : Nat) : Int) = n)
    (hat : pv.ownBlock = some g2 ∨ g2 = w1.heap.size + 1) : PartD C g base TS pv ps st w (.returned (.tuple #[])) (w2.setCell ⟨C, 1, none⟩ (.slice (some ⟨g2, 0, none⟩) (ps.length + 1) cap)) := by
  have hO : Only (fun b => pv.ownBlock = some b) w w2 := ((Only.of_below hbl).alloc o).grown' hgr (fun k hk => .inl hk)
  obtain ⟨a, m, c, hB, hA⟩ := h.blk
  have hpC : pv.ownBlock ≠ some C := own_ne (t' := 93) hp hB (by decide)
  have hpg : pv.ownBlock ≠ some g := fun e => by have := (hp.lt g e).1; omega
  have hB2 := hB.only hO hpC
  have hO2 : Only (Pb C pv) w (w2.setCell ⟨C, 1, none⟩ (.slice (some ⟨g2, 0, none⟩) (ps.length + 1) cap)) := (hO.mono (S' := Pb C pv) fun k hk => .inr hk).setCell (p := ⟨C, 1, none⟩) (.inl (.inl rfl)) _
  refine ⟨_, rfl, ⟨⟨a, m, c, hB2.set 1 _, hA⟩, fun i hi => (h.row i hi).only hO2 ?_, h.ne, h.max, h.pos, h.fin, h.good⟩, ?_, hO2, ?_⟩
  · rintro (e | e)
    · exact h.ne e
    · exact hpg e
  · exact ownp_snoc (ownsRow_setCell_other (a := ⟨C, 1, none⟩) ho (own_ne (t' := 93) ho hB2 (by decide)) _) hn
  · intro k hk
    cases hk
    rcases hat with h1 | h1
    · exact .inl h1
    · exact .inr (by have := hbl.size; show w.heap.size ≤ g2; omega)
set_option maxHeartbeats 3200000 in
theorem part_d (C g base : Nat) (TS : List Tok) (pv : Value) (ps : List Nat) (st : Sta) (w : World) (h : Dc w C g TS pv st) (hp : OwnP w base pv ps) (hg : g < base) (hbase : base ≤ w.heap.size) (hn : ps.length ≤ 100000) :
    Calls Tryz.prog 46 #[.pointer (some ⟨C, 0, none⟩)] w (PartD C g base TS pv ps st w) := by
  obtain ⟨i0, hi, hz0, hz1, hz2⟩ := info_parts Tryz.infoInt
  have HI := Lib.hid hi
  have HZ0 := Lib.hid hz0
  have HZ1 := Lib.hid hz1
  have HZ2 := Lib.hid hz2
  clear hi hz0 hz1 hz2
  have HN := Lib.hid (fun n => next_dN C g TS pv st w h n)
  have HN0 := Lib.hid (next_d1 C g TS pv st w h)
  obtain ⟨a, m, c, hB, hA⟩ := h.blk
  obtain ⟨c0, c1, c2, c3, f0, f1, f2, f3⟩ := four_free hB
  have hlt := hB.lt
  have HB := Lib.hid hB
  have HPO := Lib.hid hp
  have HNE := Lib.hid (own_ne (t' := 93) hp hB (by decide))
  generalize hT : nxt st = t at *
  obtain ⟨tk, tx, tn, ta⟩ := t
  have HP := Lib.hid fun g2 cap w1 w2 o => part_of (n := (ta : Nat)) (g2 := g2) (cap := cap) (w1 := w1) (w2 := w2) (o := o) h hp hg
  obtain ⟨ap, cp, hpe⟩ := slice_of_own hp
  subst hpe
  clear hA hB hp h c0 c2 c3 f0 f2 f3
  have q3 := fun w => tf3 (.int .i64 tk) (.string (bs tx)) (.int .i64 tn) (.int .i64 ta) w
  go_enter Tryz.func46, Tryz.ntmps46
  go_wp2
  go_region_law (first
    | (refine step_append_lies _ (by rfl) (.tmp 6) (.tmp 10) 72 (by rfl) base 3 i0 (.int .i64 0) 1 8 Tryz.underlying72 HI.out HZ0.out HZ1.out HZ2.out rfl (by omega) _ ps.length (nums ps) (by rfl) ((own_below HPO.out hb1).alloc _) ⟨w1.heap.size, 0, none⟩ 1 1 [.int .i64 (ta : Nat)] (by rfl) rfl (one_new w1 _ _) (one_one _) (by omega) (by unfold maxLen; omega) (by omega) (by have := hb1.size; simp; omega) (w1.heap.size + 1) (by simp) ?_; intro g2 cap w2 hown2 hgrow2 hat2 hlt2; have hB2 := (hgrow2.block C (by have := HB1.out.lt; simp; omega) (fun e => HNE.out e.symm)).trans (HB1.out.alloc _); have d2 : w2.cell? ⟨C, 1, none⟩ = some _ := Blk.cell hB2 1; have e2 : w2.frozen? ⟨C, 1, none⟩ = false := Blk.free hB2 1)
    | (go_simp; go_at_call 81; (with_reducible refine HN0.out.mono ?_); rintro e w1 ⟨rfl, hb1⟩; rw [hT, tokV]; have HB1 := Lib.hid (HB.out.live' hb1); have d1 : w1.cell? ⟨C, 1, none⟩ = some _ := HB1.out.cell 1; have e1 : w1.frozen? ⟨C, 1, none⟩ = false := HB1.out.free 1; have l1 : C < w1.heap.size := HB1.out.lt; have l1n : ¬ C = w1.heap.size := by omega)
    | (go_simp; go_at_call 81; (with_reducible refine (HN.out _).mono ?_); rintro e w1 ⟨rfl, hb1⟩; rw [hT, tokV]; have HB1 := Lib.hid (HB.out.live' hb1); have d1 : w1.cell? ⟨C, 1, none⟩ = some _ := HB1.out.cell 1; have e1 : w1.frozen? ⟨C, 1, none⟩ = false := HB1.out.free 1; have l1 : C < w1.heap.size := HB1.out.lt; have l1n : ¬ C = w1.heap.size := by omega))
  all_goals
    go_end0
    exact HP.out _ _ _ _ _ hb1 hgrow2 hown2 (by rw [hT]) hat2
end Go.Proofs.YtgobcflfhabdhaaGreatDoor.Lx
