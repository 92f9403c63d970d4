/-
  What the steps of reach.peel leave, as contracts.
-/
import Derived.Test.YtokehiehfgffmaaDoorKPeel2
namespace Go.Proofs.YtokehiehfgffmaaDoor
open Go.RowKit
set_option linter.unusedVariables false
set_option linter.unusedSimpArgs false

/-- The numbers of l, as integers. -/
def ci (l : List Nat) : List Int := l.map Int.ofNat
theorem ci_len (l : List Nat) : (ci l).length = l.length := by simp [ci]
theorem ci_snoc (l : List Nat) (x : Nat) : ci (l ++ [x]) = ci l ++ [(x : Int)] := by simp [ci]
/-- The order so far: a row of the call's own, with room. -/
def Ord (w0 : World) (B g oc : Nat) (a : Option Addr) (len cap L : Nat) (l : List Nat) (vd : Value) (r : Nat) (w : World) : Prop :=
  Pel w0 B a len cap L (.slice (some ⟨g, 0, none⟩) l.length oc) vd r w ∧ w.ownsRow w0.heap.size 3 1 (.slice (some ⟨g, 0, none⟩) l.length oc) l.length (ints (ci l))
theorem Ord.below {w0 w w1 : World} {B g oc : Nat} {a : Option Addr} {len cap L : Nat} {l : List Nat} {vd : Value} {r : Nat} (h : Ord w0 B g oc a len cap L l vd r w) (hb : Below w.heap.size w w1) : Ord w0 B g oc a len cap L l vd r w1 :=
  ⟨h.1.below hb, pown_below h.2 hb⟩
def OrdTo (w0 : World) (B g oc : Nat) (a : Option Addr) (len cap L : Nat) (l : List Nat) (vd : Value) (r : Nat) (e : Ending) (w : World) : Prop := e = .returned (.tuple #[]) ∧ Ord w0 B g oc a len cap L l vd r w
theorem own_not {w : World} {base g n oc B : Nat} {t : TypeId} {xs : List Value} {cs : Array Value} (h : w.ownsRow base 3 1 (.slice (some ⟨g, 0, none⟩) n oc) n xs) (hB : Blk w B t cs) (hne : t ≠ 3) : g ≠ B := by
  rintro rfl
  rcases h.2 with ⟨h0, _⟩ | ⟨g', cap', cur, hv, hg, hh, r⟩
  · cases h0
  · cases hv
    unfold Blk at hB
    rw [hB] at hh
    injection hh with hh
    injection hh with _ ht
    exact hne ht
set_option maxHeartbeats 1000000 in
theorem peel_least (w0 w : World) (B g oc : Nat) (a : Option Addr) (len cap L : Nat) (l : List Nat) (vd : Value) (r : Nat) (xs : List Nat) (h : Ord w0 B g oc a len cap L l vd r w) (hx : IsWords w0 a len xs) (hT : Tb w0) (hL : L < 2 ^ 64) (hf : freeN xs L ≠ 0) (hroom : l.length + 1 ≤ oc) :
    Calls Tryd.prog 43 #[.pointer (some ⟨B, 0, none⟩)] w (OrdTo w0 B g oc a len cap (M.dropN L (nextN xs L : Nat)) (l ++ [nextN xs L]) vd r) := by
  obtain ⟨i0, hi, hz0, hz1, hz2⟩ := info_parts Tryd.info3
  have HI := Lib.hid hi
  have HZ1 := Lib.hid hz1
  have HF := Lib.hid (peel_free w0 w B a len cap L _ vd r xs h.1 hx hT hL)
  have hflt := freeN_lt xs hL
  have hfi : M.firstI (freeN xs L) = (nextN xs L : Nat) := by simp [M.firstI, hf, nextN]
  have HFI := Lib.hid hfi
  have HO := Lib.hid h
  have HT := Lib.hid hT
  have hn64 : nextN xs L < 64 := (M.ctz_bits _ hf hflt).1
  clear hi hz0 hz1 hz2 hfi h hT hx hf
  go_enter Tryd.func43, Tryd.ntmps43
  go_wp2_with fail
  refine HF.out.mono ?_
  rintro e w1 ⟨rfl, hb1⟩
  have h1 := HO.out.below hb1
  have hfirst := first_any (freeN xs L) w1 hflt (HT.out.below h1.1.2.1).1
  rw [HFI.out] at hfirst
  have HFIR := Lib.hid hfirst
  have H1 := Lib.hid h1
  have c2 : w1.cell? ⟨B, 2, none⟩ = some (.slice (some ⟨g, 0, none⟩) l.length oc) := h1.1.1.cell 2
  clear hfirst h1 hb1
  generalize nextN xs L = x at *
  go_wp2_with fail
  refine HFIR.out.mono ?_
  rintro e w2 ⟨rfl, rfl⟩
  have hBlt := H1.out.1.1.lt
  have hgB : g ≠ B := own_not H1.out.2 H1.out.1.1 (by decide)
  have hbase := H1.out.1.2.1.size
  have HB1 := Lib.hid H1.out.1.1
  go_wp2_with (at_builtin; refine wpList_append_own_spare _ rfl (.tmp 10) (.tmp 12) 28 rfl w0.heap.size 3 i0 1 Tryd.underlying28 HI.out HZ1.out g l.length oc _ rfl (H1.out.2.alloc _) ⟨w1.heap.size, 0, none⟩ 1 1 [.int .i64 (x : Nat)] rfl rfl (cell_one_new _ _ _) (by intro u hu; simp at hu; subst hu; rfl) hroom ?_; intro w3 hown3 hgrow3; have hB3 := Lib.hid ((hgrow3.block B (by simp; omega) (by simp; omega)).trans ((Below.heap_alloc _ _ _ hBlt).trans HB1.out)); have k1 := Blk.cell hB3.out 1; have f1 := Blk.free hB3.out 1; have k2 := Blk.cell hB3.out 2; have f2 := Blk.free hB3.out 2; simp only [List.getElem?_toArray, List.getElem?_cons_succ, List.getElem?_cons_zero] at k1 k2)
  have HOWN := Lib.hid hown3
  have HGR := Lib.hid hgrow3
  clear hown3 hgrow3
  refine (drop_any L _ _ hL).mono ?_
  rintro e w4 ⟨rfl, rfl⟩
  go_wp2
  go_end0
  have hl : (l ++ [x]).length = l.length + 1 := by simp
  have hwB := H1.out.1.2.2
  refine ⟨rfl, ⟨?_, ?_, hwB⟩, ?_⟩
  · rw [hl]
    exact (Blk.set (Blk.set hB3.out 2 _) 1 _)
  · exact ((((H1.out.1.2.1).alloc hbase _).grown HGR.out (by simp; omega) (fun k hk => by
      cases hk
      exact (H1.out.2.lt g rfl).1)).setCell hwB _).setCell hwB _
  · rw [hl]
    refine ownsRow_setCell_other (a := ⟨B, 1, none⟩) (ownsRow_setCell_other (a := ⟨B, 2, none⟩) ?_ (by simp [Value.ownBlock]; omega) _) (by simp [Value.ownBlock]; omega) _
    have e : ints (ci (l ++ [x])) = ints (ci l) ++ [Value.int .i64 (x : Nat)] := by rw [ci_snoc]; simp [ints]
    rw [e]
    exact HOWN.out

/-- The depths so far: a row of the call's own at block g. -/
def Dep (w0 : World) (B g : Nat) (a : Option Addr) (len cap L : Nat) (vo : Value) (r : Nat) (ds : List Nat) (w : World) : Prop :=
  Pel w0 B a len cap L vo (.slice (some ⟨g, 0, none⟩) len len) r w ∧ Blk w g 3 (icells ds) ∧ w0.heap.size ≤ g
theorem Dep.below {w0 w w1 : World} {B g : Nat} {a : Option Addr} {len cap L : Nat} {vo : Value} {r : Nat} {ds : List Nat} (h : Dep w0 B g a len cap L vo r ds w) (hb : Below w.heap.size w w1) : Dep w0 B g a len cap L vo r ds w1 :=
  ⟨h.1.below hb, h.2.1.below hb h.2.1.lt, h.2.2⟩
theorem Dep.ne {w0 w : World} {B g : Nat} {a : Option Addr} {len cap L : Nat} {vo : Value} {r : Nat} {ds : List Nat} (h : Dep w0 B g a len cap L vo r ds w) : B ≠ g := h.1.1.ne h.2.1 (by decide)
theorem Dep.store {w0 w : World} {B g : Nat} {a : Option Addr} {len cap L : Nat} {vo : Value} {r : Nat} {ds : List Nat} (h : Dep w0 B g a len cap L vo r ds w) (i v m : Nat) : Dep w0 B g a len cap L vo r (ds.set i v) ((w.setCell ⟨g, i, none⟩ (.int .i64 (v : Nat))).drewN m) := by
  have hne := h.ne
  obtain ⟨⟨h1, h2, h3⟩, h4, h5⟩ := h
  refine ⟨⟨(h1.far (p := ⟨g, i, none⟩) hne _).drewN m, below_drewN (h2.setCell h5 _) m, h3⟩, ?_, h5⟩
  have := h4.set i (.int .i64 (v : Nat))
  rw [icells_set] at this
  exact this.drewN m
def DepTo (w0 : World) (B g : Nat) (a : Option Addr) (len cap L : Nat) (vo : Value) (r : Nat) (ds : List Nat) (e : Ending) (w : World) : Prop := e = .returned (.tuple #[]) ∧ Dep w0 B g a len cap L vo r ds w
/-- What a round of all leaves. -/
def AllR (w0 : World) (B g : Nat) (a : Option Addr) (len cap L : Nat) (vo : Value) (r : Nat) (ds : List Nat) (F g2 : Nat) (k : Value) (w : World) : Prop :=
  ∃ j : Nat, j ≤ M.cnt F ∧ k = .int .i64 j ∧ Dep w0 B g a len cap L vo r (setAll r ((M.bl F).take j) ds) w ∧ (∀ i, i < M.cnt F → w.cell? ⟨g2, 0 + i, none⟩ = some (.int .i64 ((M.bi F).getD i 0))) ∧ g2 ≠ g
set_option maxHeartbeats 1000000 in
theorem peel_all (w0 w : World) (B g : Nat) (a : Option Addr) (len cap L : Nat) (vo : Value) (r : Nat) (ds : List Nat) (xs : List Nat) (h : Dep w0 B g a len cap L vo r ds w) (hx : IsWords w0 a len xs) (hT : Tb w0) (hL : L < 2 ^ 64) (hds : ds.length = len) (hin : ∀ y ∈ M.bl (freeN xs L), y < len) (hr : r ≤ 64) :
    Calls Tryd.prog 44 #[.pointer (some ⟨B, 0, none⟩)] w (DepTo w0 B g a len cap (M.lessN L (freeN xs L)) vo (r + 1) (setAll r (M.bl (freeN xs L)) ds)) := by
  have HF := Lib.hid (peel_free w0 w B a len cap L vo _ r xs h.1 hx hT hL)
  have hflt := freeN_lt xs hL
  have HD := Lib.hid h
  have HT := Lib.hid hT
  have HIN := Lib.hid hin
  have HN := Lib.hid hds
  have hc64 := M.cnt_le (freeN xs L)
  clear h hT hx hin hds
  generalize freeN xs L = F at *
  go_enter Tryd.func44, Tryd.ntmps44
  go_wp2_with fail
  refine HF.out.mono ?_
  rintro e w1 ⟨rfl, hb1⟩
  have h1 := HD.out.below hb1
  have hT1 := HT.out.below h1.1.2.1
  have HLI := Lib.hid (list_any F w1 hflt hT1.2 hT1.1)
  have H1 := Lib.hid h1
  clear h1 hb1 hT1
  go_wp2_with fail
  refine HLI.out.mono ?_
  rintro e w2 ⟨g2, cap2, rfl, hown, hb2, hT2⟩
  have hg2 : w1.heap.size ≤ g2 := (hown.lt g2 rfl).1
  have hlist : ∀ i, i < M.cnt F → w2.cell? ⟨g2, 0 + i, none⟩ = some (.int .i64 ((M.bi F).getD i 0)) := fun i hi => own_cells hown i (by rw [M.bi_len]; exact hi)
  have hF1 := H1.out.below hb2
  have hgg : g2 ≠ g := by have := H1.out.2.1.lt; omega
  have HLIST := Lib.hid hlist
  clear hlist hown hT2
  go_wp2
  go_loopw [4, 10] (fun _ k wr => AllR w0 B g a len cap L vo r ds F g2 k wr) (fun _ k _ => M.cnt F - (intOf k).toNat)
  case atStart => exact ⟨0, Nat.zero_le _, rfl, hF1, HLIST.out, hgg⟩
  case round =>
    obtain ⟨j, hj, rfl, hF, hL2, _⟩ := hrel
    by_cases hjl : j < M.cnt F
    · obtain ⟨y, hy1, hy2, hy3, hy4⟩ := M.bi_getD F j hjl
      have hc0 := hL2 j hjl
      rw [hy1, Nat.zero_add] at hc0
      have HTK := Lib.hid (bl_take F j y hy2)
      have hyn : y < len := HIN.out y ((M.mem_bl _ _).2 ⟨hy3, hy4⟩)
      have hlen := setAll_len r ((M.bl F).take j) ds
      have c3 : wr.cell? ⟨B, 3, none⟩ = some (.slice (some ⟨g, 0, none⟩) len len) := hF.1.1.cell 3
      have c4 : wr.cell? ⟨B, 4, none⟩ = some (.int .i64 (r : Nat)) := hF.1.1.cell 4
      have c1 : wr.cell? ⟨g, y, none⟩ = some (.int .i64 (R.row (setAll r ((M.bl F).take j) ds) y : Nat)) := by rw [hF.2.1.cell, icells_at _ y (by rw [hlen, HN.out]; exact hyn)]
      have f1 := hF.2.1.free y
      have hnext : AllR w0 B g a len cap L vo r ds F g2 (.int .i64 ((j : Int) + 1)) ((wr.setCell ⟨g, y, none⟩ (.int .i64 (r : Nat))).drewN 1) := by
        refine ⟨j + 1, by omega, by go_num, ?_, fun i hi => ?_, hgg⟩
        · rw [HTK.out, setAll_snoc]
          exact hF.store y r 1
        · have := hL2 i hi
          have e2 := World.cell?_setCell_other wr ⟨g, y, none⟩ ⟨g2, 0 + i, none⟩ (.int .i64 (r : Nat)) (fun e => hgg (congrArg Addr.block e).symm)
          exact e2.trans this
      have HNEXT := Lib.hid hnext
      have i1 : (0 : Int) ≤ (y : Int) := by omega
      have i2 : (y : Int) < (len : Int) := by omega
      clear hL2 hy1 hy2 hlen hF hnext
      go_wp2_with fail
      go_region
      all_goals (go_wp2; go_roundw)
      all_goals first | exact HNEXT.out | (simp [intOf]; omega)
    · obtain rfl : j = M.cnt F := by omega
      have HTK : Hid ((M.bl F).take (M.cnt F) = M.bl F) := List.take_of_length_le (Nat.le_refl _)
      have c1 : wr.cell? ⟨B, 1, none⟩ = some (.int .u64 (L : Nat)) := hF.1.1.cell 1
      have c4 : wr.cell? ⟨B, 4, none⟩ = some (.int .i64 (r : Nat)) := hF.1.1.cell 4
      have f1 := hF.1.1.free 1
      have f4 := hF.1.1.free 4
      have e1 : bits .andNot .u64 (L : Nat) (F : Nat) = (M.lessN L F : Nat) := u64_andNot_nat L F hL hflt
      have HH := Lib.hid hF
      clear hF hL2
      go_wp2
      go_end0
      obtain ⟨⟨b1, b2, b3⟩, b4, b5⟩ := HH.out
      have hne := HH.out.ne
      rw [HTK.out] at b4
      refine ⟨rfl, ⟨?_, (b2.setCell b3 _).setCell b3 _, b3⟩, ?_, b5⟩
      · exact (b1.set 1 _).set 4 _
      · exact (b4.far (p := ⟨B, 1, none⟩) (Ne.symm hne) _).far (p := ⟨B, 4, none⟩) (Ne.symm hne) _
end Go.Proofs.YtokehiehfgffmaaDoor
