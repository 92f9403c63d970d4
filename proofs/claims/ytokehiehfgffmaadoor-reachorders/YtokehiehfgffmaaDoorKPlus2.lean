/-
  What slices.Clone, reach.Plus and reach.Star answer, as contracts.
-/
import Derived.Test.YtokehiehfgffmaaDoorKPlus
import Derived.Lib.SliceRun
namespace Go.Proofs.YtokehiehfgffmaaDoor
open Go.RowKit
set_option linter.unusedVariables false
set_option linter.unusedSimpArgs false

/-- What slices.Clone leaves. -/
def CloneTo (len : Nat) (xs : List Nat) (w : World) (e : Ending) (w' : World) : Prop := ∃ g cap zs, e = .returned (.slice (some ⟨g, 0, none⟩) len cap) ∧ w.heap.size ≤ g ∧ Blk w' g 23 (wz xs zs) ∧ Below w.heap.size w w'
theorem wz_of_own {w : World} {base n : Nat} {v : Value} {xs : List Nat} (h : w.ownsRow base 23 1 v n (xs.map fun x => Value.int .u64 (x : Nat))) (h0 : 0 < n) : ∃ g cap zs, v = .slice (some ⟨g, 0, none⟩) n cap ∧ base ≤ g ∧ Blk w g 23 (wz xs zs) := by
  rcases h.2 with ⟨_, h1⟩ | ⟨g, cap, cur, hv, hg, hh, hn, hm, hs, ht⟩
  · omega
  · refine ⟨g, cap, (cur.toList.drop (n * 1)).toArray, hv, hg, ?_⟩
    unfold Blk
    rw [hh]
    have e : cur = wz xs (cur.toList.drop (n * 1)).toArray := by
      apply Array.ext'
      unfold wz words
      simp only [Array.toList_append, ← ht, List.take_append_drop]
    rw [← e]
/-- What Plus leaves: nothing, if it may not be; else rows at a block of its own. -/
def KPlusTo (xs : List Nat) (w : World) (e : Ending) (w' : World) : Prop :=
  (plusR xs = [] ∧ e = .returned (.slice none 0 0) ∧ Below w.heap.size w w') ∨ (R.mayR xs = true ∧ ∃ g cap zs, e = .returned (.slice (some ⟨g, 0, none⟩) xs.length cap) ∧ w.heap.size ≤ g ∧ Blk w' g 23 (wz (plusR xs) zs) ∧ Below w.heap.size w w')
set_option maxHeartbeats 400000 in
theorem clone_any (a : Option Addr) (len cap : Nat) (xs : List Nat) (w : World) (hx : IsWords w a len xs) (h0 : 0 < len) (hl : len ≤ 64) :
    Calls Tryd.prog 45 #[.slice a len cap] w (CloneTo len xs w) := by
  obtain ⟨i0, hi, hz0, hz1, hz2⟩ := info_parts Tryd.infoW
  obtain ⟨b, off, rfl, hc⟩ := hx.at h0
  have hlen := hx.1
  have HC := Lib.hid hc
  have HL := Lib.hid hlen
  have HB : Hid (∀ i, i < len → b < w.heap.size) := fun i hi => World.block_lt_of_cell? w _ (hc i hi)
  clear hc hlen hx
  have HZ := Lib.hid hz0
  have HZ1 := Lib.hid hz1
  have HZ2 := Lib.hid hz2
  have HI := Lib.hid hi
  clear hz0 hz1 hz2 hi
  have hq : (binOp .eql 25 (.slice (some ⟨b, off, none⟩) len cap) (.slice none 0 0)).run Tryd.prog w = .ok (.bool false) w := Lib.run_eql_slice_nil w _ _ _ _ _ _ _ Tryd.underlying25
  have hnews : ∀ (j : Nat) (u : Value), (xs.map fun x => Value.int .u64 (x : Nat))[j]? = some u → (w.alloc (.cells #[] 23)).cell? ((⟨b, off, none⟩ : Addr).add j) = some u := by
    intro j u hj
    simp only [List.getElem?_map, Option.map_eq_some_iff] at hj
    obtain ⟨x, hx, rfl⟩ := hj
    obtain ⟨hjl, hxe⟩ := List.getElem?_eq_some_iff.1 hx
    rw [HL.out] at hjl
    have h1 := HC.out j hjl
    have h2 := (Below.refl w.heap.size w).alloc (Nat.le_refl _) (.cells #[] 23)
    rw [Addr.add_lit, h2.cell (p := ⟨b, off + j, none⟩) (HB.out j hjl), h1]
    simp [R.row, List.getD, hx]
  have HNEWS := Lib.hid hnews
  clear hnews
  go_enter Tryd.func45, Tryd.ntmps45
  go_wp2_with (at_builtin; refine wpList_append_grows _ rfl (.tmp 5) (.tmp 6) 25 rfl 23 i0 (.int .u64 0) 1 8 Tryd.underlying25 HI.out HZ.out HZ1.out HZ2.out rfl (by decide) _ 0 0 [] rfl (fun _ => ⟨rfl, rfl⟩) rfl (fun _ _ j u hj => by simp at hj) ⟨b, off, none⟩ len cap (xs.map fun x => Value.int .u64 (x : Nat)) rfl (by simp [HL.out]) HNEWS.out (by intro u hu; simp at hu; obtain ⟨x, _, rfl⟩ := hu; rfl) (by omega) (by unfold maxLen; omega) (by omega) ?_; intro v' w' hown hgrow)
  simp only [List.nil_append, Nat.zero_add] at hown
  obtain ⟨g, cap', zs, rfl, hg, hB⟩ := wz_of_own hown h0
  have hb : Below w.heap.size w w' := ((Below.refl w.heap.size w).alloc (Nat.le_refl _) _).grown hgrow (by simp) (fun k hk => by cases hk)
  have hg' : w.heap.size ≤ g := by simp at hg; omega
  clear hown hgrow hg
  go_ret
  exact ⟨g, cap', zs, rfl, hg', hB, hb⟩

/-- The state of a closing: rows that ways are led through one thing after the other. -/
def CloI (w0 : World) (B g n cap : Nat) (zs : Array Value) (xs : List Nat) (s : Nat × List Nat) (w : World) : Prop :=
  Clo w0 B g n cap zs s.1 (s.2.foldl thru xs) w ∧ s.1 < 2 ^ 64 ∧ s.2 ++ M.bl s.1 = List.range n
def leftAt (B : Nat) (w : World) : Nat := ((w.cell? ⟨B, 1, none⟩).map fun v => (intOf v).toNat).getD 0
theorem leftAt_of {w : World} {B L : Nat} (h : w.cell? ⟨B, 1, none⟩ = some (.int .u64 (L : Nat))) : leftAt B w = L := by
  simp [leftAt, h, intOf]
theorem foldl_thru {n : Nat} {xs : List Nat} (h : Rel n xs) : ∀ (l : List Nat), Rel n (l.foldl thru xs) := by
  intro l
  have h0 : PInv n xs [] xs := ⟨h, fun _ _ hb => hb, fun _ _ hb => .one hb, fun d hd => by simp at hd⟩
  exact (PInv.fold l [] xs h0).rel
set_option maxHeartbeats 400000 in
theorem kplus_any (a : Option Addr) (len cap : Nat) (xs : List Nat) (w : World) (hx : IsWords w a len xs) (hT : Tb w) (h0 : R.mayR xs = true → 0 < len) :
    Calls Tryd.prog 16 #[.slice a len cap] w (KPlusTo xs w) := by
  obtain rfl : xs.length = len := hx.1
  have HM := may_any' a xs.length cap xs w hx hT
  cases hm : R.mayR xs
  · rw [hm] at HM
    have HM := Lib.hid HM
    have HE : Hid (plusR xs = []) := show plusR xs = [] by simp [plusR, hm]
    go_enter Tryd.func16, Tryd.ntmps16
    go_wp2_with fail
    refine HM.out.mono ?_
    rintro e w' ⟨rfl, hb⟩
    go_wp2
    go_ret
    exact .inl ⟨HE.out, rfl, hb⟩
  · have hl := R.may_len hm
    have hr : Rel xs.length xs := ⟨rfl, hx.2.2.1, hm⟩
    have HR := Lib.hid hr
    have h1 := h0 hm
    rw [hm] at HM
    have HM := Lib.hid HM
    clear h0
    go_enter Tryd.func16, Tryd.ntmps16
    go_wp2_with fail
    refine HM.out.mono ?_
    rintro e w1 ⟨rfl, hb1⟩
    go_wp2_with fail
    refine (clone_any a xs.length cap xs w1 (hx.below hb1) h1 hl).mono ?_
    rintro e w2 ⟨g, cap2, zs, rfl, hg, hB, hb2⟩
    go_wp2_with fail
    refine (kthings_any _ _ _ _).mono ?_
    rintro e w3 ⟨rfl, rfl⟩
    go_wp2_with fail
    have hb12 : Below w.heap.size w w2 := hb1.trans (hb2.mono hb1.size)
    have hgl := hB.lt
    have hne : w2.heap.size ≠ g := by omega
    refine (run_closing _ _ enters_cmore enters_cthru _ (CloI w w2.heap.size g xs.length cap2 zs xs) (fun s => s.1 != 0) (leftAt w2.heap.size) ?_ ?_ (R.things xs.length, []) _ ?_).mono ?_
    · rintro ⟨L, l⟩ w' hI
      refine (closing_more w' _ L _ hI.1.1).mono ?_
      rintro e w'' ⟨rfl, rfl⟩
      exact ⟨rfl, hI, rfl⟩
    · rintro ⟨L, l⟩ w' hI hb
      have hL0 : L ≠ 0 := by simpa using hb
      have hcons := M.bl_cons L hL0 hI.2.1
      have hlist := hI.2.2
      simp only [hcons] at hlist
      have hkn : Lib.ctz 64 L < xs.length := by
        have : Lib.ctz 64 L ∈ List.range xs.length := by rw [← hlist]; simp
        exact List.mem_range.1 this
      have hrr := foldl_thru HR.out l
      refine (through_any w w' _ g xs.length cap2 L _ zs _ rfl hL0 hI.2.1 hI.1 hrr.1 hl hrr.2.1 hT hkn).mono ?_
      rintro e w'' ⟨rfl, hC⟩
      refine ⟨rfl, ⟨(M.dropN L (Lib.ctz 64 L : Nat), l ++ [Lib.ctz 64 L]), ?_, M.dropN_lt _ _ hI.2.1, ?_⟩, ?_⟩
      · show Clo _ _ _ _ _ _ _ ((l ++ [Lib.ctz 64 L]).foldl thru xs) _
        rw [List.foldl_append]
        exact hC
      · simpa using hlist
      · rw [leftAt_of (hC.1.cell 1), leftAt_of (hI.1.1.cell 1)]
        exact M.dropN_less L hL0 hI.2.1
    · exact ⟨⟨Blk.new _ _ _, hB.alloc _, hb12.alloc hb12.size _, hb12.size, Nat.le_trans hb1.size hg, hne⟩, R.things_lt _, by simpa using R.bl_things _ hl⟩
    · rintro e w3 ⟨rfl, ⟨L, l⟩, hI, hb⟩
      obtain rfl : L = 0 := by simpa using hb
      have hlist := hI.2.2
      simp only [M.bl_zero, List.append_nil] at hlist
      subst hlist
      have HE : Hid ((List.range xs.length).foldl thru xs = plusR xs) := show _ = _ by simp [plusR, hm]
      have c1 : w3.cell? ⟨w2.heap.size, 0, none⟩ = some (.slice (some ⟨g, 0, none⟩) xs.length cap2) := hI.1.1.cell 0
      have HI := Lib.hid hI
      clear hI
      go_wp2
      go_ret
      refine .inr ⟨hm, g, cap2, zs, rfl, ?_, ?_, HI.out.1.2.2.1⟩
      · exact HI.out.1.2.2.2.2.1
      · have := HI.out.1.2.1
        rwa [HE.out] at this
end Go.Proofs.YtokehiehfgffmaaDoor
