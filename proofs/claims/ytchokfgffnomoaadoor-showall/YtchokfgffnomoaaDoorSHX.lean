/-
  A page that show writes, in memory; what strings.Builder's methods tell at it, as contracts.
-/
import Derived.Test.YtchokfgffnomoaaDoorPE
import Derived.Test.YtchokfgffnomoaaDoorPSame
import Derived.Test.YtchokfgffnomoaaDoorLDig
import Derived.Lib.Builder
import Derived.Lib.AppendStr
import Derived.Lib.UnsafeStr
import Derived.Lib.MakeNoZero
import Derived.Laws.Externs
import Derived.Lib.AppendIntMem
import Derived.Test.YtchokfgffnomoaaDoorSHShelf
import Derived.Test.YtchokfgffnomoaaDoorXMath
import Derived.Test.YtchokfgffnomoaaDoorXKidT
import Derived.Test.YtchokfgffnomoaaDoorPSameC
namespace Go.Proofs.YtchokfgffnomoaaDoor.Lx
open Go.RowKit
set_option maxRecDepth 100000
set_option linter.unusedVariables false
set_option linter.unusedSimpArgs false
theorem Tryd.sizeBld : (Tryd.prog.info? 73).map (·.size) = some 2 := by kernel_rfl
theorem Tryd.liesBld : liesAt Tryd.prog Tryd.prog.depth 75 (3 / Tryd.prog.cellsOf 75) 0 73 1 = true := by kernel_rfl
theorem Tryd.infoU8 : (Tryd.prog.info? 5).map (fun i => (i.zero, i.size, i.bytes)) = some (some (.int .u8 0), 1, 1) := by kernel_rfl
theorem Tryd.cellsU8 : Tryd.prog.cellsOf 5 = 1 := by kernel_rfl
theorem own_kept {w w' : World} {S : Nat → Prop} {base : Nat} {t : TypeId} {size n : Nat} {v : Value} {xs : List Value} (h : w.ownsRow base t size v n xs) (ho : Only S w w') (hS : ∀ k, v.ownBlock = some k → ¬ S k) : w'.ownsRow base t size v n xs := by
  refine ⟨h.1, ?_⟩
  rcases h.2 with h2 | ⟨g, cap, cur, rfl, hg, hh, hr⟩
  · exact .inl h2
  · exact .inr ⟨g, cap, cur, rfl, hg, (ho.block g (lt_of_block hh) (hS g rfl)).trans hh, hr⟩
/-- Nothing turns below B, and no block turns but b and rows of bytes. -/
structure Kp (B b : Nat) (w w' : World) : Prop where
  bel : Below B w w'
  blk : ∀ g t cs, t ≠ 5 → g ≠ b → Blk w g t cs → Blk w' g t cs
section
variable {B b : Nat} {w w' w'' : World}
theorem Kp.refl : Kp B b w w := ⟨Below.refl _ _, fun _ _ _ _ _ h => h⟩
theorem Kp.trans (h : Kp B b w w') (k : Kp B b w' w'') : Kp B b w w'' := ⟨h.bel.trans k.bel, fun g t cs h1 h2 h3 => k.blk g t cs h1 h2 (h.blk g t cs h1 h2 h3)⟩
theorem Kp.size (h : Kp B b w w') : w.heap.size ≤ w'.heap.size := h.bel.size
theorem Kp.alloc (h : Kp B b w w') (hB : B ≤ w.heap.size) (o : Obj) : Kp B b w (w'.alloc o) := ⟨h.bel.alloc (by have := h.bel.size; omega) o, fun g t cs h1 h2 h3 => (h.blk g t cs h1 h2 h3).alloc o⟩
theorem Kp.drew (h : Kp B b w w') : Kp B b w w'.drew := ⟨h.bel.drew, fun g t cs h1 h2 h3 => h.blk g t cs h1 h2 h3⟩
theorem Kp.below (h : Below w.heap.size w w') (hB : B ≤ w.heap.size) : Kp B b w w' := ⟨h.mono hB, fun g t cs h1 h2 h3 => h3.live' h⟩
end
/-- The name of the library's table of powers of ten. -/
def powName : String := Rows.showAllRow.named.headD Rows.showAllRow.func
/-- The library's table is as it is laid, whatever turns from B on. -/
def Tb (B : Nat) (w : World) : Prop := Lib.TabBelow Tryd.prog B w powName .u64 Lib.pow10Tab
theorem Tb.step {B : Nat} {w w' : World} (h : Tb B w) (hb : Below B w w') : Tb B w' := fun w2 h2 => h w2 (hb.trans h2)
/-- A page: its margin, what is written so far. -/
structure Pg (B : Nat) (w : World) (b : Nat) (m : Int) (l : List UInt8) : Prop where
  base : B ≤ b
  tab : Tb B w
  blk : ∃ p v, (p = .pointer none ∨ p = .pointer (some ⟨b, 0, none⟩)) ∧ Blk w b 75 #[p, v, .int .i64 m] ∧ w.ownsRow B 5 1 v l.length (Lib.byteCells l)
/-- So much is written then, and nothing else turns. -/
def Said (B b : Nat) (m : Int) (l : List UInt8) (r : Value) (w : World) (e : Ending) (w' : World) : Prop := e = .returned r ∧ Pg B w' b m l ∧ Kp B b w w'
section
variable {B b : Nat} {m : Int} {l l' : List UInt8} {w w' : World}
theorem Pg.lt (h : Pg B w b m l) : b < w.heap.size := by
  obtain ⟨p, v, _, hb, _⟩ := h.blk
  exact hb.lt
theorem Pg.low (h : Pg B w b m l) : B ≤ w.heap.size := by
  have := h.lt
  have := h.base
  omega
theorem Pg.below (h : Pg B w b m l) (hb : Below w.heap.size w w') : Pg B w' b m l := by
  obtain ⟨p, v, hp, h1, h2⟩ := h.blk
  exact ⟨h.base, h.tab.step (hb.mono h.low), p, v, hp, h1.live' hb, own_below h2 hb⟩
theorem Pg.alloc (h : Pg B w b m l) (o : Obj) : Pg B (w.alloc o) b m l := h.below ((Below.refl _ _).alloc (Nat.le_refl _) _)
theorem Pg.drew (h : Pg B w b m l) : Pg B w.drew b m l := ⟨h.base, h.tab.step (Below.refl B w).drew, h.blk⟩
end
theorem strCells_by (s : ByteArray) : Lib.strCells s = Lib.byteCells (by' s) := rfl
theorem byteCells_app (a c : List UInt8) : Lib.byteCells (a ++ c) = Lib.byteCells a ++ Lib.byteCells c := by simp [Lib.byteCells]
set_option maxHeartbeats 1600000 in
theorem cc_used (b : Nat) (w : World) (h0 : w.cell? ⟨b, 0, none⟩ = some (.pointer (some ⟨b, 0, none⟩))) :
    Calls Tryd.prog 82 #[.pointer (some ⟨b, 0, none⟩)] w fun e w' => e = .returned (.tuple #[]) ∧ w' = w := by
  obtain ⟨j, hj, _⟩ := Option.map_eq_some_iff.1 Tryd.sizeBld
  go_enter Tryd.func82, Tryd.ntmps82
  go_wp2
  rw [Lib.run_neq_ptr_same w _ Tryd.underlying71 hj]
  go_wp2
  go_end0
  exact ⟨rfl, rfl⟩
set_option maxHeartbeats 1600000 in
theorem cc_fresh (b : Nat) (w : World) (h0 : w.cell? ⟨b, 0, none⟩ = some (.pointer none)) (hsh : w.shape? b = some (75, 3)) (hfz : w.frozen? ⟨b, 0, none⟩ = false) :
    Calls Tryd.prog 82 #[.pointer (some ⟨b, 0, none⟩)] w fun e w' => e = .returned (.tuple #[]) ∧ w' = w.setCell ⟨b, 0, none⟩ (.pointer (some ⟨b, 0, none⟩)) := by
  obtain ⟨j, hj, hjs⟩ := Option.map_eq_some_iff.1 Tryd.sizeBld
  go_enter Tryd.func82, Tryd.ntmps82
  go_wp2
  rw [Lib.run_to_unsafe w ⟨b, 0, none⟩ Tryd.underlying71 Tryd.underlying114 hj (by rw [hjs]; decide) hsh (Nat.zero_lt_succ 2)]
  simp only [Result.andThen]
  rw [Oper.upon_value]
  go_wp2
  rw [run_callFunc_extern Tryd.func93 (by kernel_rfl) (by kernel_rfl) (by kernel_rfl) (e := Extern.AbiNoEscape.same) (by kernel_rfl)]
  rw [Lib.run_noEscape]
  simp only [Result.andThen]
  rw [Oper.upon_value]
  go_wp2
  rw [Lib.run_from_unsafe w ⟨b, 0, none⟩ Tryd.underlying114 Tryd.underlying71 hj hsh Tryd.liesBld]
  simp only [Result.andThen]
  rw [Oper.upon_value]
  go_wp2
  go_end0
  exact ⟨rfl, rfl⟩
end Go.Proofs.YtchokfgffnomoaaDoor.Lx
/-
  What WriteString, String and say tell at a page, as contracts.
-/
namespace Go.Proofs.YtchokfgffnomoaaDoor.Lx
open Go.RowKit
set_option maxRecDepth 100000
set_option linter.unusedVariables false
set_option linter.unusedSimpArgs false
theorem cc_any {B b : Nat} {m : Int} {l : List UInt8} {w : World} (h : Pg B w b m l) :
    Calls Tryd.prog 82 #[.pointer (some ⟨b, 0, none⟩)] w fun e w' => e = .returned (.tuple #[]) ∧ (∃ v, Blk w' b 75 #[.pointer (some ⟨b, 0, none⟩), v, .int .i64 m] ∧ w'.ownsRow B 5 1 v l.length (Lib.byteCells l)) ∧ Kp B b w w' := by
  obtain ⟨p, v, hp, hb, ho⟩ := h.blk
  have hne := own_ne (t' := 75) ho hb (by decide)
  rcases hp with rfl | rfl
  · refine (cc_fresh b w (hb.cell 0) (by
      have hb' : w.heap[b]? = some (.cells #[.pointer none, v, .int .i64 m] 75 (0, 0)) := hb
      simp [World.shape?, hb']) (hb.free 0)).mono ?_
    rintro e w' ⟨rfl, rfl⟩
    have hS : Only (fun k => k = b) w (w.setCell ⟨b, 0, none⟩ (.pointer (some ⟨b, 0, none⟩))) := (Only.refl (fun k => k = b) w).setCell (p := ⟨b, 0, none⟩) (.inl rfl) _
    refine ⟨rfl, ⟨v, hb.set 0 _, own_kept ho hS (fun k hk e => hne (by rw [hk, e]))⟩, ⟨(Below.refl B w).setCell (p := ⟨b, 0, none⟩) h.base _, fun g t cs _ h2 h3 => h3.far (p := ⟨b, 0, none⟩) h2 _⟩⟩
  · refine (cc_used b w (hb.cell 0)).mono ?_
    rintro e w' ⟨rfl, rfl⟩
    exact ⟨rfl, ⟨v, hb, ho⟩, Kp.refl⟩
theorem ws_end {B b : Nat} {m : Int} {l : List UInt8} {s : ByteArray} {v v' : Value} {w w1 w2 : World} (ht : Tb B w) (hB : B ≤ b) (hbl : Blk w1 b 75 #[.pointer (some ⟨b, 0, none⟩), v, .int .i64 m]) (ho : w1.ownsRow B 5 1 v l.length (Lib.byteCells l)) (hk : Kp B b w w1)
    (ho2 : w2.ownsRow B 5 1 v' (l.length + s.size) (Lib.byteCells l ++ Lib.strCells s)) (hg : w1.grownBy w2 v.ownBlock) :
    Blk w2 b 75 #[.pointer (some ⟨b, 0, none⟩), v, .int .i64 m] ∧ Pg B (w2.setCell ⟨b, 1, none⟩ v') b m (l ++ by' s) ∧ Kp B b w (w2.setCell ⟨b, 1, none⟩ v') := by
  have hne := own_ne (t' := 75) ho hbl (by decide)
  have hb2 : Blk w2 b 75 #[.pointer (some ⟨b, 0, none⟩), v, .int .i64 m] := (hg.block b hbl.lt (fun e => hne e.symm)).trans hbl
  have hne2 := own_ne (t' := 75) ho2 hb2 (by decide)
  have hS : Only (fun k => k = b) w2 (w2.setCell ⟨b, 1, none⟩ v') := (Only.refl (fun k => k = b) w2).setCell (p := ⟨b, 1, none⟩) (.inl rfl) _
  have hlt := hbl.lt
  have hkg : Kp B b w1 (w2.setCell ⟨b, 1, none⟩ v') := by
    refine ⟨((Below.refl B w1).grown hg (by omega) (fun k hk => (ho.lt k hk).1)).setCell (p := ⟨b, 1, none⟩) hB _, fun g t cs h1 h2 h3 => ?_⟩
    have h4 : Blk w2 g t cs := (hg.block g h3.lt (fun e => own_ne (t' := t) ho h3 (fun h => h1 h.symm) e.symm)).trans h3
    exact h4.far (p := ⟨b, 1, none⟩) h2 _
  refine ⟨hb2, ⟨hB, ht.step (hk.trans hkg).bel, .pointer (some ⟨b, 0, none⟩), v', .inr rfl, hb2.set 1 _, ?_⟩, hk.trans hkg⟩
  have h5 := own_kept ho2 hS (fun k hk e => hne2 (by rw [hk, e]))
  rw [strCells_by, ← byteCells_app] at h5
  rw [List.length_append, by_len]
  exact h5
set_option maxHeartbeats 1600000 in
theorem ws_any {B b : Nat} {m : Int} {l : List UInt8} {w : World} (s : ByteArray) (h : Pg B w b m l) (hl : l.length + s.size ≤ 140737488355328) :
    Calls Tryd.prog 62 #[.pointer (some ⟨b, 0, none⟩), .string s] w (Said B b m (l ++ by' s) (.tuple #[.int .i64 s.size, .nilIface]) w) := by
  obtain ⟨i0, hi, hz0, hz1, hz2⟩ := info_parts Tryd.infoU8
  have hBb := h.base
  have hlow := h.low
  have HC := Lib.hid (cc_any h)
  have HT := Lib.hid h.tab
  clear h
  go_enter Tryd.func62, Tryd.ntmps62
  go_wp2_with fail
  with_reducible refine HC.out.mono ?_
  rintro e w1 ⟨rfl, ⟨v, hbl, ho⟩, hk⟩
  obtain ⟨c0, c1, c2⟩ : w1.cell? ⟨b, 0, none⟩ = some (.pointer (some ⟨b, 0, none⟩)) ∧ w1.cell? ⟨b, 1, none⟩ = some v ∧ w1.cell? ⟨b, 2, none⟩ = some (.int .i64 m) := ⟨hbl.cell 0, hbl.cell 1, hbl.cell 2⟩
  have hsz := hk.size
  go_wp2_with (at_builtin; refine Lib.wpList_append_own_string _ rfl _ _ 54 9 rfl B 5 i0 Tryd.underlying54 Tryd.underlying9 hi hz0 hz1 hz2 _ _ _ rfl ho s rfl ?c3 ?c4 ?c5 ?_)
  case c3 => unfold maxLen; omega
  case c4 => omega
  case c5 => omega
  intro v' w2 ho2 hg _
  obtain ⟨hb2, hpg, hkk⟩ := ws_end HT.out hBb hbl ho hk ho2 hg
  have f1 : w2.frozen? ⟨b, 1, none⟩ = false := hb2.free 1
  have d1 : w2.cell? ⟨b, 1, none⟩ = some v := hb2.cell 1
  obtain ⟨ao, n', cap, rfl⟩ : ∃ ao n' cap, v' = .slice ao n' cap := by
    rcases ho2.2 with ⟨hv, _⟩ | ⟨g, cap, cur, hv, _⟩
    · exact ⟨_, _, _, hv⟩
    · exact ⟨_, _, _, hv⟩
  clear c0 c1 c2
  go_wp2
  go_ret2
  exact ⟨rfl, hpg, hkk⟩
/-- A slice of strings, in a block of its own. -/
def pstrs (ss : List ByteArray) : Array Value := (ss.map fun s => Value.string s).toArray
def cat (ss : List ByteArray) : List UInt8 := (ss.map by').flatten
theorem cat_take {ss : List ByteArray} {j : Nat} {s : ByteArray} (h : ss[j]? = some s) : cat (ss.take (j + 1)) = cat (ss.take j) ++ by' s := by
  rw [List.take_add_one, h]
  simp [cat]
theorem cat_le {ss : List ByteArray} (j : Nat) : (cat (ss.take j)).length ≤ (cat ss).length := by
  conv => rhs; rw [← List.take_append_drop j ss]
  simp only [cat, List.map_append, List.flatten_append, List.length_append]
  omega
set_option maxHeartbeats 1600000 in
theorem say_any {B b g : Nat} {m : Int} {l : List UInt8} {w : World} (ss : List ByteArray) (cap : Nat) (h : Pg B w b m l) (hg : Blk w g 9 (pstrs ss)) (hl : l.length + (cat ss).length ≤ 140737488355328) (hn : ss.length ≤ 1000) :
    Calls Tryd.prog 49 #[.pointer (some ⟨b, 0, none⟩), .slice (some ⟨g, 0, none⟩) ss.length cap] w (Said B b m (l ++ cat ss) (.tuple #[]) w) := by
  have HP := Lib.hid h
  have HG := Lib.hid hg
  have HL := Lib.hid hl
  have hgb : g ≠ b := by
    obtain ⟨p, v, _, hb, _⟩ := h.blk
    exact hg.ne hb (by decide)
  clear h hg hl
  go_enter Tryd.func49, Tryd.ntmps49
  go_wp2_with fail
  go_loopw [8] (fun t wr => ∃ j : Nat, t = .int .i64 j ∧ j ≤ ss.length ∧ Pg B wr b m (l ++ cat (ss.take j)) ∧ Kp B b w wr) (fun t _ => ss.length - (intOf t).toNat)
  case atStart => exact ⟨0, rfl, Nat.zero_le _, by simpa [cat] using HP.out, Kp.refl⟩
  case round =>
    obtain ⟨j, rfl, hj, hpg, hkp⟩ := hrel
    have HPG := Lib.hid hpg
    have HKP := Lib.hid hkp
    clear hpg hkp
    by_cases hlt : j < ss.length
    · have hs : ss[j]? = some ss[j] := List.getElem?_eq_getElem hlt
      have HTK := Lib.hid (cat_take hs)
      have hc : wr.cell? ⟨g, j, none⟩ = some (.string ss[j]) := by
        rw [(HKP.out.blk g _ _ (by decide) hgb HG.out).cell]
        simp [pstrs, hs]
      have HW := Lib.hid (ws_any ss[j] HPG.out (by
        have h1 := cat_le (ss := ss) (j + 1)
        rw [HTK.out, List.length_append, by_len] at h1
        have := HL.out
        rw [List.length_append]
        omega))
      rw [List.append_assoc, ← HTK.out] at HW
      generalize ss[j] = S at *
      have m1 : (0 : Int) ≤ (j : Int) := by omega
      have m2 : (j : Int) < (ss.length : Int) := by omega
      clear hs
      go_wp2_with fail
      with_reducible refine HW.out.mono ?_
      rintro e w2 ⟨rfl, hp2, hk2⟩
      go_wp2_with fail
      go_roundw
      case rel => exact ⟨j + 1, by go_num, by omega, hp2, HKP.out.trans hk2⟩
      case measure => simp [intOf]; omega
    · have hd1 : decide (j < ss.length) = false := by simpa using hlt
      have hd2 : decide ((j : Int) < (ss.length : Int)) = false := by simpa using hlt
      obtain rfl : j = ss.length := by omega
      go_wp2_with fail
      go_end0
      have h1 := HPG.out
      rw [List.take_length] at h1
      exact ⟨rfl, h1, HKP.out⟩
/-- say of a slice that was just made. -/
theorem say_new {B b : Nat} {m : Int} {l : List UInt8} {w : World} (g : Nat) (hg : g = w.heap.size) (ss : List ByteArray) (cs : Array Value) (n : Nat) (hcs : cs = pstrs ss) (hn : n = ss.length) (h : Pg B w b m l) (hl : l.length + (cat ss).length ≤ 140737488355328) (h1 : n ≤ 1000) :
    Calls Tryd.prog 49 #[.pointer (some ⟨b, 0, none⟩), .slice (some ⟨g, 0, none⟩) n n] (w.alloc (.cells cs 9)) (Said B b m (l ++ cat ss) (.tuple #[]) w) := by
  subst hcs hn hg
  refine (say_any ss ss.length (h.alloc _) (Blk.new w 9 (pstrs ss)) hl h1).mono ?_
  rintro e w' ⟨rfl, h2, h3⟩
  exact ⟨rfl, h2, (Kp.refl.alloc h.low _).trans h3⟩
end Go.Proofs.YtchokfgffnomoaaDoor.Lx
/-
  What strconv.Itoa and strings.Repeat tell, and number of a page, as contracts.
-/
namespace Go.Proofs.YtchokfgffnomoaaDoor.Lx
open Go.RowKit
set_option maxRecDepth 100000
set_option linter.unusedVariables false
set_option linter.unusedSimpArgs false
theorem dec_same (n : Nat) : Lib.decDigits n = L.decL n := by
  induction n using Nat.strongRecOn with
  | ind n ih =>
    by_cases h : n < 10
    · rw [Lib.decDigits, dif_pos h, L.dec_small h]
    · rw [Lib.decDigits, dif_neg h, L.dec_great h, ih (n / 10) (by omega)]
theorem itoa_same (n : Int) : Lib.itoa n = P.xN n := by
  unfold Lib.itoa P.xN
  rw [dec_same, dec_same]
theorem tab_cast {P : Program} {w : World} {k : IntKind} {zs : List Int} {s s' : String} (h : Lib.TabIs P w s k zs) (e : s = s') : Lib.TabIs P w s' k zs := e ▸ h
/-- An int. -/
def I64 (n : Int) : Prop := -9223372036854775808 ≤ n ∧ n ≤ 9223372036854775807
theorem itoa_any {B : Nat} {w : World} (n : Int) (hn : I64 n) (ht : Tb B w) (hB : B ≤ w.heap.size) : Calls Tryd.prog 63 #[.int .i64 n] w (fun e w' => e = .returned (.string (bs (P.xN n))) ∧ Below w.heap.size w w') := by
  have h1 : Lib.TabIs Tryd.prog w powName .u64 Lib.pow10Tab := ht.here
  refine (show Calls Tryd.prog 63 #[.int .i64 n] w fun e w' => e = .returned (.string ⟨(Lib.itoa n).toArray⟩) ∧ ∃ k os, w' = Go.Sort.grow (w.drewN k) os from Any.strconv_Itoa Tryd.laysM171 n hn.1 hn.2 w (tab_cast h1 (by kernel_rfl))).mono ?_
  rintro e w' ⟨rfl, k, os, rfl⟩
  rw [itoa_same]
  exact ⟨rfl, Lib.below_grow _ w (Nat.le_refl _) k os⟩
theorem xN_len (n : Int) (hn : I64 n) : (P.xN n).length ≤ 20 := by
  unfold P.xN
  split
  · rw [List.length_cons]
    have := L.dec_len n.natAbs 18 (by
      have h10 : (10 : Nat) ^ (18 + 1) = 10000000000000000000 := by decide
      have := hn.1
      omega)
    omega
  · have := L.dec_len n.toNat 18 (by
      have h10 : (10 : Nat) ^ (18 + 1) = 10000000000000000000 := by decide
      have := hn.2
      omega)
    omega
set_option maxHeartbeats 1600000 in
theorem pgnum_any {B b : Nat} {m : Int} {l : List UInt8} {w : World} (n : Int) (hn : I64 n) (h : Pg B w b m l) (hl : l.length ≤ 100000000000000) :
    Calls Tryd.prog 50 #[.pointer (some ⟨b, 0, none⟩), .int .i64 n] w (Said B b m (l ++ P.xN n) (.tuple #[]) w) := by
  have HP := Lib.hid h
  have HI := Lib.hid (itoa_any n hn h.tab h.low)
  have HX := Lib.hid (xN_len n hn)
  clear h hn
  go_enter Tryd.func50, Tryd.ntmps50
  go_wp2_with fail
  with_reducible refine HI.out.mono ?_
  rintro e w1 ⟨rfl, hb⟩
  have HS := Lib.hid (say_new (w := w1) _ rfl [bs (P.xN n)] #[.string (bs (P.xN n))] 1 rfl rfl (HP.out.below hb) (by
    have := HX.out
    simp [cat, by_bs]
    omega) (by simp))
  rw [show cat [bs (P.xN n)] = P.xN n by simp [cat, by_bs]] at HS
  have HK := Lib.hid (show Kp B b w w1 from Kp.below hb HP.out.low)
  clear hb
  go_wp2_with fail
  with_reducible refine HS.out.mono ?_
  rintro e w2 ⟨rfl, hp2, hk2⟩
  go_wp2_with fail
  go_end0
  exact ⟨rfl, hp2, HK.out.trans hk2⟩
end Go.Proofs.YtchokfgffnomoaaDoor.Lx
/-
  What a page tells of expressions, as contracts.
-/
namespace Go.Proofs.YtchokfgffnomoaaDoor.Lx
open Go.RowKit
open P (EX CO ST)
set_option maxRecDepth 100000
set_option linter.unusedVariables false
set_option linter.unusedSimpArgs false
mutual
/-- Its numbers are ints. -/
def okX : EX → Prop
  | .mk op n name kids => I64 n ∧ okXs kids
def okXs : List EX → Prop
  | [] => True
  | e :: es => okX e ∧ okXs es
end
theorem okXs_mem : ∀ {es : List EX}, okXs es → ∀ e ∈ es, okX e
  | [], _, e, he => by cases he
  | x :: es, h, e, he => by
    unfold okXs at h
    rcases List.mem_cons.1 he with rfl | he
    · exact h.1
    · exact okXs_mem h.2 e he
def big : Nat := 10000000000000
/-- An expression is told onto a page. -/
def ExOk (B b : Nat) (e : EX) : Prop := ∀ (m : Int) (l : List UInt8) (v : Value) (w : World), LX (· < B) w v e → Pg B w b m l → l.length + (P.xE e).length ≤ big → Calls Tryd.prog 37 #[.pointer (some ⟨b, 0, none⟩), v] w (Said B b m (l ++ P.xE e) (.tuple #[]) w)
abbrev fvX (b : Nat) : Value := .func (.func 37) #[.pointer (some ⟨b, 0, none⟩)] #[]
theorem lowX {B b : Nat} {w w' : World} (hk : Kp B b w w') {v : Value} {es : List EX} (h : IsXs (· < B) w v es) : IsXs (· < B) w' v es := by
  obtain ⟨a, c, rfl, hm, h | ⟨g, off, rfl, hg, hs⟩⟩ := h
  · exact ⟨a, c, rfl, hm, .inl h⟩
  · exact ⟨_, c, rfl, hm, .inr ⟨g, off, rfl, hg, LXs.keep (fun g hg hl => hk.bel.block g hg) _ hg hs⟩⟩
set_option maxHeartbeats 1600000 in
theorem at_x {B b : Nat} (es : List EX) (i : Nat) (z : Int) (hz : z = (i : Int)) (hE : ∀ e ∈ es, ExOk B b e) (m : Int) (l : List UInt8) (v : Value) (w : World) (hv : IsXs (· < B) w v es) (h : Pg B w b m l) (hl : l.length + (kidT es i).length ≤ big) :
    Calls Tryd.prog 98 #[v, .int .i64 z, fvX b] w (Said B b m (l ++ kidT es i) (.tuple #[]) w) := by
  subst hz
  obtain ⟨a, c, rfl, hm, hc⟩ := hv
  unfold maxLen at hm
  have HP := Lib.hid h
  clear h
  by_cases hi : i < es.length
  · rcases hc with rfl | ⟨g, off, rfl, hg, hs⟩
    · simp at hi
    obtain ⟨x, a0, a1, a2, a3, hx, h0, h1, h2, h3, hlx⟩ := LXs.at es hs i hi
    have hk : kidT es i = P.xE x := by simp [kidT, List.getD_eq_getElem?_getD, hx]
    rw [hk] at hl ⊢
    have HE := Lib.hid (hE x (List.mem_of_getElem? hx) m l _ w hlx HP.out hl)
    clear hE hs hx hlx hk hl
    have m1 : (0 : Int) ≤ (i : Int) := by omega
    have m2 : (i : Int) < (es.length : Int) := by omega
    have d1 : decide ((i : Int) < (es.length : Int)) = true := by simp; omega
    have d2 : decide (i < es.length) = true := by simp; omega
    go_enter Tryd.func98, Tryd.ntmps98
    go_wp2_with fail
    with_reducible refine HE.out.mono ?_
    rintro e w2 ⟨rfl, hp, hk⟩
    go_wp2_with fail
    go_end0
    exact ⟨rfl, hp, hk⟩
  · have hk : kidT es i = [] := by simp [kidT, List.getD_eq_getElem?_getD, List.getElem?_eq_none (show es.length ≤ i by omega)]
    rw [hk, List.append_nil]
    have d1 : decide ((i : Int) < (es.length : Int)) = false := by simp; omega
    have d2 : decide (i < es.length) = false := by simp; omega
    clear hE hc hk hl
    go_enter Tryd.func98, Tryd.ntmps98
    go_wp2_with fail
    go_end0
    exact ⟨rfl, HP.out, Kp.refl⟩
set_option maxHeartbeats 1600000 in
theorem pair_x {B b : Nat} (es : List EX) (JB : ByteArray) (J : List UInt8) (hJ : JB = bs J) (hE : ∀ e ∈ es, ExOk B b e) (m : Int) (l : List UInt8) (v : Value) (w : World) (hv : IsXs (· < B) w v es) (h : Pg B w b m l) (hl : l.length + (1 + ((kidT es 0).length + (J.length + ((kidT es 1).length + 1)))) ≤ big) :
    Calls Tryd.prog 87 #[.pointer (some ⟨b, 0, none⟩), v, .string JB, fvX b] w (Said B b m (l ++ ([40] ++ (kidT es 0 ++ (J ++ (kidT es 1 ++ [41]))))) (.tuple #[]) w) := by
  subst hJ
  have HP := Lib.hid h
  have HV := Lib.hid hv
  have HE := Lib.hid hE
  have HL := Lib.hid hl
  clear h hv hE hl
  go_enter Tryd.func87, Tryd.ntmps87
  go_wp2_with fail
  have HS := Lib.hid (say_new _ rfl [⟨#[40]⟩] #[.string ⟨#[40]⟩] 1 rfl rfl HP.out (by have := HL.out; unfold big at this; simp [cat, by']; omega) (by omega))
  with_reducible refine HS.out.mono ?_
  rintro e w1 ⟨rfl, hp1, hk1⟩
  rw [show cat [⟨#[40]⟩] = [40] from rfl] at hp1
  have HA := Lib.hid (at_x es 0 0 rfl HE.out m _ v w1 (lowX hk1 HV.out) hp1 (by have := HL.out; simp; omega))
  clear HS
  go_wp2_with fail
  with_reducible refine HA.out.mono ?_
  rintro e w2 ⟨rfl, hp2, hk2⟩
  clear HA hp1
  go_wp2_with fail
  have HS := Lib.hid (say_new _ rfl [bs J] #[.string (bs J)] 1 rfl rfl hp2 (by have := HL.out; unfold big at this; simp [cat, by_bs]; omega) (by omega))
  with_reducible refine HS.out.mono ?_
  rintro e w3 ⟨rfl, hp3, hk3⟩
  rw [show cat [bs J] = J by simp [cat, by_bs]] at hp3
  have HA := Lib.hid (at_x es 1 1 rfl HE.out m _ v w3 (lowX (hk1.trans (hk2.trans hk3)) HV.out) hp3 (by have := HL.out; simp; omega))
  clear HS hp2
  go_wp2_with fail
  with_reducible refine HA.out.mono ?_
  rintro e w4 ⟨rfl, hp4, hk4⟩
  clear HA hp3
  go_wp2_with fail
  have HS := Lib.hid (say_new _ rfl [⟨#[41]⟩] #[.string ⟨#[41]⟩] 1 rfl rfl hp4 (by have := HL.out; unfold big at this; simp [cat, by']; omega) (by omega))
  with_reducible refine HS.out.mono ?_
  rintro e w5 ⟨rfl, hp5, hk5⟩
  rw [show cat [⟨#[41]⟩] = [41] from rfl] at hp5
  go_wp2_with fail
  go_end0
  refine ⟨rfl, ?_, hk1.trans (hk2.trans (hk3.trans (hk4.trans hk5)))⟩
  have e : (((l ++ [40]) ++ kidT es 0) ++ J) ++ kidT es 1 ++ [41] = l ++ ([40] ++ (kidT es 0 ++ (J ++ (kidT es 1 ++ [41])))) := by simp
  rw [e] at hp5
  exact hp5
set_option maxHeartbeats 1600000 in
theorem plus_x {B b : Nat} (n : Int) (nm : List UInt8) (es : List EX) (hE : ∀ e ∈ es, ExOk B b e) (m : Int) (l : List UInt8) (v : Value) (w : World) (hv : LX (· < B) w v (.mk 3 n nm es)) (h : Pg B w b m l) (hl : l.length + (P.xE (.mk 3 n nm es)).length ≤ big) :
    Calls Tryd.prog 67 #[.pointer (some ⟨b, 0, none⟩), v] w (Said B b m (l ++ P.xE (.mk 3 n nm es)) (.tuple #[]) w) := by
  have hx : P.xE (.mk 3 n nm es) = [40] ++ (kidT es 0 ++ ([32, 43, 32] ++ (kidT es 1 ++ [41]))) := by simp [P.xE, P.midE, kidT, xEs_map]
  rw [hx] at hl ⊢
  unfold LX at hv
  obtain ⟨a, cap, rfl, hm, hc⟩ := hv
  have HW := Lib.hid (show Below w.heap.size w (w.alloc (.cells #[.int .i64 3, .int .i64 n, .string (bs nm), .slice a es.length cap] 31)) from (Below.refl _ _).alloc (Nat.le_refl _) _)
  have HK := Lib.hid (show Kp B b w _ from Kp.below HW.out h.low)
  have HA := Lib.hid (pair_x es ⟨#[32, 43, 32]⟩ [32, 43, 32] rfl hE m l (.slice a es.length cap) _ (lowX HK.out ⟨a, cap, rfl, hm, hc⟩) (h.below HW.out) (by simp only [List.length_append, List.length_cons, List.length_nil] at hl ⊢; omega))
  clear hE hc h hl hx
  go_enter Tryd.func67, Tryd.ntmps67
  go_wp2_with fail
  with_reducible refine HA.out.mono ?_
  rintro e w2 ⟨rfl, hp, hk⟩
  go_wp2_with fail
  go_end0
  exact ⟨rfl, hp, HK.out.trans hk⟩
set_option maxHeartbeats 1600000 in
theorem minus_x {B b : Nat} (n : Int) (nm : List UInt8) (es : List EX) (hE : ∀ e ∈ es, ExOk B b e) (m : Int) (l : List UInt8) (v : Value) (w : World) (hv : LX (· < B) w v (.mk 4 n nm es)) (h : Pg B w b m l) (hl : l.length + (P.xE (.mk 4 n nm es)).length ≤ big) :
    Calls Tryd.prog 68 #[.pointer (some ⟨b, 0, none⟩), v] w (Said B b m (l ++ P.xE (.mk 4 n nm es)) (.tuple #[]) w) := by
  have hx : P.xE (.mk 4 n nm es) = [40] ++ (kidT es 0 ++ ([32, 45, 32] ++ (kidT es 1 ++ [41]))) := by simp [P.xE, P.midE, kidT, xEs_map]
  rw [hx] at hl ⊢
  unfold LX at hv
  obtain ⟨a, cap, rfl, hm, hc⟩ := hv
  have HW := Lib.hid (show Below w.heap.size w (w.alloc (.cells #[.int .i64 4, .int .i64 n, .string (bs nm), .slice a es.length cap] 31)) from (Below.refl _ _).alloc (Nat.le_refl _) _)
  have HK := Lib.hid (show Kp B b w _ from Kp.below HW.out h.low)
  have HA := Lib.hid (pair_x es ⟨#[32, 45, 32]⟩ [32, 45, 32] rfl hE m l (.slice a es.length cap) _ (lowX HK.out ⟨a, cap, rfl, hm, hc⟩) (h.below HW.out) (by simp only [List.length_append, List.length_cons, List.length_nil] at hl ⊢; omega))
  clear hE hc h hl hx
  go_enter Tryd.func68, Tryd.ntmps68
  go_wp2_with fail
  with_reducible refine HA.out.mono ?_
  rintro e w2 ⟨rfl, hp, hk⟩
  go_wp2_with fail
  go_end0
  exact ⟨rfl, hp, HK.out.trans hk⟩
set_option maxHeartbeats 1600000 in
theorem eq_x {B b : Nat} (n : Int) (nm : List UInt8) (es : List EX) (hE : ∀ e ∈ es, ExOk B b e) (m : Int) (l : List UInt8) (v : Value) (w : World) (hv : LX (· < B) w v (.mk 5 n nm es)) (h : Pg B w b m l) (hl : l.length + (P.xE (.mk 5 n nm es)).length ≤ big) :
    Calls Tryd.prog 69 #[.pointer (some ⟨b, 0, none⟩), v] w (Said B b m (l ++ P.xE (.mk 5 n nm es)) (.tuple #[]) w) := by
  have hx : P.xE (.mk 5 n nm es) = [40] ++ (kidT es 0 ++ ([32, 61, 61, 32] ++ (kidT es 1 ++ [41]))) := by simp [P.xE, P.midE, kidT, xEs_map]
  rw [hx] at hl ⊢
  unfold LX at hv
  obtain ⟨a, cap, rfl, hm, hc⟩ := hv
  have HW := Lib.hid (show Below w.heap.size w (w.alloc (.cells #[.int .i64 5, .int .i64 n, .string (bs nm), .slice a es.length cap] 31)) from (Below.refl _ _).alloc (Nat.le_refl _) _)
  have HK := Lib.hid (show Kp B b w _ from Kp.below HW.out h.low)
  have HA := Lib.hid (pair_x es ⟨#[32, 61, 61, 32]⟩ [32, 61, 61, 32] rfl hE m l (.slice a es.length cap) _ (lowX HK.out ⟨a, cap, rfl, hm, hc⟩) (h.below HW.out) (by simp only [List.length_append, List.length_cons, List.length_nil] at hl ⊢; omega))
  clear hE hc h hl hx
  go_enter Tryd.func69, Tryd.ntmps69
  go_wp2_with fail
  with_reducible refine HA.out.mono ?_
  rintro e w2 ⟨rfl, hp, hk⟩
  go_wp2_with fail
  go_end0
  exact ⟨rfl, hp, HK.out.trans hk⟩
set_option maxHeartbeats 1600000 in
theorem less_x {B b : Nat} (n : Int) (nm : List UInt8) (es : List EX) (hE : ∀ e ∈ es, ExOk B b e) (m : Int) (l : List UInt8) (v : Value) (w : World) (hv : LX (· < B) w v (.mk 6 n nm es)) (h : Pg B w b m l) (hl : l.length + (P.xE (.mk 6 n nm es)).length ≤ big) :
    Calls Tryd.prog 70 #[.pointer (some ⟨b, 0, none⟩), v] w (Said B b m (l ++ P.xE (.mk 6 n nm es)) (.tuple #[]) w) := by
  have hx : P.xE (.mk 6 n nm es) = [40] ++ (kidT es 0 ++ ([32, 60, 32] ++ (kidT es 1 ++ [41]))) := by simp [P.xE, P.midE, kidT, xEs_map]
  rw [hx] at hl ⊢
  unfold LX at hv
  obtain ⟨a, cap, rfl, hm, hc⟩ := hv
  have HW := Lib.hid (show Below w.heap.size w (w.alloc (.cells #[.int .i64 6, .int .i64 n, .string (bs nm), .slice a es.length cap] 31)) from (Below.refl _ _).alloc (Nat.le_refl _) _)
  have HK := Lib.hid (show Kp B b w _ from Kp.below HW.out h.low)
  have HA := Lib.hid (pair_x es ⟨#[32, 60, 32]⟩ [32, 60, 32] rfl hE m l (.slice a es.length cap) _ (lowX HK.out ⟨a, cap, rfl, hm, hc⟩) (h.below HW.out) (by simp only [List.length_append, List.length_cons, List.length_nil] at hl ⊢; omega))
  clear hE hc h hl hx
  go_enter Tryd.func70, Tryd.ntmps70
  go_wp2_with fail
  with_reducible refine HA.out.mono ?_
  rintro e w2 ⟨rfl, hp, hk⟩
  go_wp2_with fail
  go_end0
  exact ⟨rfl, hp, HK.out.trans hk⟩
set_option maxHeartbeats 1600000 in
theorem num_x {B b : Nat} (n : Int) (hn : I64 n) (nm : List UInt8) (es : List EX) (m : Int) (l : List UInt8) (v : Value) (w : World) (hv : LX (· < B) w v (.mk 1 n nm es)) (h : Pg B w b m l) (hl : l.length + (P.xE (.mk 1 n nm es)).length ≤ big) :
    Calls Tryd.prog 65 #[.pointer (some ⟨b, 0, none⟩), v] w (Said B b m (l ++ P.xE (.mk 1 n nm es)) (.tuple #[]) w) := by
  have hx : P.xE (.mk 1 n nm es) = P.xN n := by simp [P.xE]
  rw [hx] at hl ⊢
  unfold LX at hv
  obtain ⟨a, cap, rfl, hm, hc⟩ := hv
  have HW := Lib.hid (show Below w.heap.size w (w.alloc (.cells #[.int .i64 1, .int .i64 n, .string (bs nm), .slice a es.length cap] 31)) from (Below.refl _ _).alloc (Nat.le_refl _) _)
  have HK := Lib.hid (show Kp B b w _ from Kp.below HW.out h.low)
  have HA := Lib.hid (pgnum_any n hn (h.below HW.out) (by unfold big at hl; omega))
  clear hc h hl hx hn
  go_enter Tryd.func65, Tryd.ntmps65
  go_wp2_with fail
  with_reducible refine HA.out.mono ?_
  rintro e w2 ⟨rfl, hp, hk⟩
  go_wp2_with fail
  go_end0
  exact ⟨rfl, hp, HK.out.trans hk⟩
set_option maxHeartbeats 1600000 in
theorem reg_x {B b : Nat} (n : Int) (nm : List UInt8) (es : List EX) (m : Int) (l : List UInt8) (v : Value) (w : World) (hv : LX (· < B) w v (.mk 2 n nm es)) (h : Pg B w b m l) (hl : l.length + (P.xE (.mk 2 n nm es)).length ≤ big) :
    Calls Tryd.prog 66 #[.pointer (some ⟨b, 0, none⟩), v] w (Said B b m (l ++ P.xE (.mk 2 n nm es)) (.tuple #[]) w) := by
  have hx : P.xE (.mk 2 n nm es) = nm := by simp [P.xE]
  rw [hx] at hl ⊢
  unfold LX at hv
  obtain ⟨a, cap, rfl, hm, hc⟩ := hv
  have HW := Lib.hid (show Below w.heap.size w (w.alloc (.cells #[.int .i64 2, .int .i64 n, .string (bs nm), .slice a es.length cap] 31)) from (Below.refl _ _).alloc (Nat.le_refl _) _)
  have HK := Lib.hid (show Kp B b w _ from Kp.below HW.out h.low)
  have HA := Lib.hid (say_new (w.heap.size + 1) (by simp) [bs nm] #[.string (bs nm)] 1 rfl rfl (h.below HW.out) (by unfold big at hl; simp [cat, by_bs]; omega) (by omega))
  rw [show cat [bs nm] = nm by simp [cat, by_bs]] at HA
  clear hc h hl hx
  go_enter Tryd.func66, Tryd.ntmps66
  go_wp2_with fail
  with_reducible refine HA.out.mono ?_
  rintro e w2 ⟨rfl, hp, hk⟩
  go_wp2_with fail
  go_end0
  exact ⟨rfl, hp, HK.out.trans hk⟩
/-- What tells expressions of that kind. -/
def fx (b : Nat) (op : Int) : Value := if op = 1 then .func (.func 65) #[.pointer (some ⟨b, 0, none⟩)] #[] else if op = 2 then .func (.func 66) #[.pointer (some ⟨b, 0, none⟩)] #[] else if op = 3 then .func (.func 67) #[.pointer (some ⟨b, 0, none⟩)] #[] else if op = 4 then .func (.func 68) #[.pointer (some ⟨b, 0, none⟩)] #[] else if op = 5 then .func (.func 69) #[.pointer (some ⟨b, 0, none⟩)] #[] else if op = 6 then .func (.func 70) #[.pointer (some ⟨b, 0, none⟩)] #[] else .nilFunc
set_option maxHeartbeats 1600000 in
theorem exprOf_any (b : Nat) (op : Int) (w : World) : Calls Tryd.prog 55 #[.pointer (some ⟨b, 0, none⟩), .int .i64 op] w (fun e w' => e = .returned (fx b op) ∧ w = w') := by
  by_cases h1 : op = 1
  · subst h1
    show Calls Tryd.prog 55 #[.pointer (some ⟨b, 0, none⟩), .int .i64 1] w (fun e w' => e = .returned (.func (.func 65) #[.pointer (some ⟨b, 0, none⟩)] #[]) ∧ w = w')
    go_enter Tryd.func55, Tryd.ntmps55
    go_wp2_with fail
    go_ret
    exact ⟨rfl, rfl⟩
  by_cases h2 : op = 2
  · subst h2
    show Calls Tryd.prog 55 #[.pointer (some ⟨b, 0, none⟩), .int .i64 2] w (fun e w' => e = .returned (.func (.func 66) #[.pointer (some ⟨b, 0, none⟩)] #[]) ∧ w = w')
    go_enter Tryd.func55, Tryd.ntmps55
    go_wp2_with fail
    go_ret
    exact ⟨rfl, rfl⟩
  by_cases h3 : op = 3
  · subst h3
    show Calls Tryd.prog 55 #[.pointer (some ⟨b, 0, none⟩), .int .i64 3] w (fun e w' => e = .returned (.func (.func 67) #[.pointer (some ⟨b, 0, none⟩)] #[]) ∧ w = w')
    go_enter Tryd.func55, Tryd.ntmps55
    go_wp2_with fail
    go_ret
    exact ⟨rfl, rfl⟩
  by_cases h4 : op = 4
  · subst h4
    show Calls Tryd.prog 55 #[.pointer (some ⟨b, 0, none⟩), .int .i64 4] w (fun e w' => e = .returned (.func (.func 68) #[.pointer (some ⟨b, 0, none⟩)] #[]) ∧ w = w')
    go_enter Tryd.func55, Tryd.ntmps55
    go_wp2_with fail
    go_ret
    exact ⟨rfl, rfl⟩
  by_cases h5 : op = 5
  · subst h5
    show Calls Tryd.prog 55 #[.pointer (some ⟨b, 0, none⟩), .int .i64 5] w (fun e w' => e = .returned (.func (.func 69) #[.pointer (some ⟨b, 0, none⟩)] #[]) ∧ w = w')
    go_enter Tryd.func55, Tryd.ntmps55
    go_wp2_with fail
    go_ret
    exact ⟨rfl, rfl⟩
  by_cases h6 : op = 6
  · subst h6
    show Calls Tryd.prog 55 #[.pointer (some ⟨b, 0, none⟩), .int .i64 6] w (fun e w' => e = .returned (.func (.func 70) #[.pointer (some ⟨b, 0, none⟩)] #[]) ∧ w = w')
    go_enter Tryd.func55, Tryd.ntmps55
    go_wp2_with fail
    go_ret
    exact ⟨rfl, rfl⟩
  have e1 : (op == 1) = false := by simp; omega
  have e2 : (op == 2) = false := by simp; omega
  have e3 : (op == 3) = false := by simp; omega
  have e4 : (op == 4) = false := by simp; omega
  have e5 : (op == 5) = false := by simp; omega
  have e6 : (op == 6) = false := by simp; omega
  have hf : fx b op = .nilFunc := by simp [fx, h1, h2, h3, h4, h5, h6]
  rw [hf]
  clear hf
  go_enter Tryd.func55, Tryd.ntmps55
  go_wp2_with fail
  go_ret
  exact ⟨rfl, rfl⟩
end Go.Proofs.YtchokfgffnomoaaDoor.Lx
/-
  What a page tells of any expression, as a contract.
-/
namespace Go.Proofs.YtchokfgffnomoaaDoor.Lx
open Go.RowKit
open P (EX CO ST)
set_option maxRecDepth 100000
set_option linter.unusedVariables false
set_option linter.unusedSimpArgs false
set_option maxHeartbeats 6400000 in
theorem pgexpr_any {B b : Nat} : ∀ (N : Nat) (e : EX), EX.size e ≤ N → okX e → ExOk B b e
  | 0, .mk op n nm kids, hN, hok => by
    unfold EX.size at hN
    omega
  | N + 1, .mk op n nm kids, hN, hok => by
    intro m l v w hv h hl
    unfold okX at hok
    obtain ⟨hn, hks⟩ := hok
    have hE : ∀ e ∈ kids, ExOk B b e := fun e he => by
      obtain ⟨i, hi⟩ := List.getElem?_of_mem he
      have h1 := size_mem kids i e hi
      unfold EX.size at hN
      exact pgexpr_any N e (by omega) (okXs_mem hks e he)
    have HE := Lib.hid hE
    have HL := Lib.hid hl
    have HN := Lib.hid hn
    have hv0 := hv
    unfold LX at hv0
    obtain ⟨a, cap, rfl, hm, hc⟩ := hv0
    have HV := Lib.hid hv
    have HB := Lib.hid (Blk.new w 31 #[.int .i64 op, .int .i64 n, .string (bs nm), .slice a kids.length cap])
    have HW := Lib.hid (show Below w.heap.size w (w.alloc (.cells #[.int .i64 op, .int .i64 n, .string (bs nm), .slice a kids.length cap] 31)) from (Below.refl _ _).alloc (Nat.le_refl _) _)
    have HK := Lib.hid (show Kp B b w (w.alloc (.cells #[.int .i64 op, .int .i64 n, .string (bs nm), .slice a kids.length cap] 31)) from Kp.below HW.out h.low)
    have HP := Lib.hid (h.below HW.out)
    have HP0 := Lib.hid h
    clear hE hl hn hc hv hks h hm hN
    by_cases h1 : op = 1
    · subst h1
      have HA := Lib.hid (fun w' (hv : LX (· < B) w' (.agg #[.int .i64 1, .int .i64 n, .string (bs nm), .slice a kids.length cap]) (.mk 1 n nm kids)) (hp : Pg B w' b m l) => num_x n HN.out nm kids m l _ w' hv hp HL.out)
      go_enter Tryd.func37, Tryd.ntmps37
      go_wp2_with fail
      generalize w.alloc (.cells #[.int .i64 1, .int .i64 n, .string (bs nm), .slice a kids.length cap] 31) = w1 at *
      obtain ⟨s0, s1, s2, s3, _, _, _, _⟩ := four_free HB.out
      with_reducible refine (exprOf_any b 1 w1).mono ?_
      rintro e w2 ⟨rfl, rfl⟩
      rw [show fx b 1 = .func (.func 65) #[.pointer (some ⟨b, 0, none⟩)] #[] from rfl]
      have hrun : Sem.run Tryd.prog (binOp BinOp.neq 79 (.func (.func 65) #[.pointer (some ⟨b, 0, none⟩)] #[]) .nilFunc) w1 = .ok (.bool true) w1 := by kernel_rfl
      have HA := Lib.hid (HA.out w1 (HV.out.keep (fun g hg hl => HK.out.bel.block g hg)) HP.out)
      go_wp2_with fail
      with_reducible refine HA.out.mono ?_
      rintro e w3 ⟨rfl, hp, hk⟩
      go_wp2_with fail
      go_end0
      exact ⟨rfl, hp, HK.out.trans hk⟩
    by_cases h2 : op = 2
    · subst h2
      have HA := Lib.hid (fun w' (hv : LX (· < B) w' (.agg #[.int .i64 2, .int .i64 n, .string (bs nm), .slice a kids.length cap]) (.mk 2 n nm kids)) (hp : Pg B w' b m l) => reg_x n nm kids m l _ w' hv hp HL.out)
      go_enter Tryd.func37, Tryd.ntmps37
      go_wp2_with fail
      generalize w.alloc (.cells #[.int .i64 2, .int .i64 n, .string (bs nm), .slice a kids.length cap] 31) = w1 at *
      obtain ⟨s0, s1, s2, s3, _, _, _, _⟩ := four_free HB.out
      with_reducible refine (exprOf_any b 2 w1).mono ?_
      rintro e w2 ⟨rfl, rfl⟩
      rw [show fx b 2 = .func (.func 66) #[.pointer (some ⟨b, 0, none⟩)] #[] from rfl]
      have hrun : Sem.run Tryd.prog (binOp BinOp.neq 79 (.func (.func 66) #[.pointer (some ⟨b, 0, none⟩)] #[]) .nilFunc) w1 = .ok (.bool true) w1 := by kernel_rfl
      have HA := Lib.hid (HA.out w1 (HV.out.keep (fun g hg hl => HK.out.bel.block g hg)) HP.out)
      go_wp2_with fail
      with_reducible refine HA.out.mono ?_
      rintro e w3 ⟨rfl, hp, hk⟩
      go_wp2_with fail
      go_end0
      exact ⟨rfl, hp, HK.out.trans hk⟩
    by_cases h3 : op = 3
    · subst h3
      have HA := Lib.hid (fun w' (hv : LX (· < B) w' (.agg #[.int .i64 3, .int .i64 n, .string (bs nm), .slice a kids.length cap]) (.mk 3 n nm kids)) (hp : Pg B w' b m l) => plus_x n nm kids HE.out m l _ w' hv hp HL.out)
      go_enter Tryd.func37, Tryd.ntmps37
      go_wp2_with fail
      generalize w.alloc (.cells #[.int .i64 3, .int .i64 n, .string (bs nm), .slice a kids.length cap] 31) = w1 at *
      obtain ⟨s0, s1, s2, s3, _, _, _, _⟩ := four_free HB.out
      with_reducible refine (exprOf_any b 3 w1).mono ?_
      rintro e w2 ⟨rfl, rfl⟩
      rw [show fx b 3 = .func (.func 67) #[.pointer (some ⟨b, 0, none⟩)] #[] from rfl]
      have hrun : Sem.run Tryd.prog (binOp BinOp.neq 79 (.func (.func 67) #[.pointer (some ⟨b, 0, none⟩)] #[]) .nilFunc) w1 = .ok (.bool true) w1 := by kernel_rfl
      have HA := Lib.hid (HA.out w1 (HV.out.keep (fun g hg hl => HK.out.bel.block g hg)) HP.out)
      go_wp2_with fail
      with_reducible refine HA.out.mono ?_
      rintro e w3 ⟨rfl, hp, hk⟩
      go_wp2_with fail
      go_end0
      exact ⟨rfl, hp, HK.out.trans hk⟩
    by_cases h4 : op = 4
    · subst h4
      have HA := Lib.hid (fun w' (hv : LX (· < B) w' (.agg #[.int .i64 4, .int .i64 n, .string (bs nm), .slice a kids.length cap]) (.mk 4 n nm kids)) (hp : Pg B w' b m l) => minus_x n nm kids HE.out m l _ w' hv hp HL.out)
      go_enter Tryd.func37, Tryd.ntmps37
      go_wp2_with fail
      generalize w.alloc (.cells #[.int .i64 4, .int .i64 n, .string (bs nm), .slice a kids.length cap] 31) = w1 at *
      obtain ⟨s0, s1, s2, s3, _, _, _, _⟩ := four_free HB.out
      with_reducible refine (exprOf_any b 4 w1).mono ?_
      rintro e w2 ⟨rfl, rfl⟩
      rw [show fx b 4 = .func (.func 68) #[.pointer (some ⟨b, 0, none⟩)] #[] from rfl]
      have hrun : Sem.run Tryd.prog (binOp BinOp.neq 79 (.func (.func 68) #[.pointer (some ⟨b, 0, none⟩)] #[]) .nilFunc) w1 = .ok (.bool true) w1 := by kernel_rfl
      have HA := Lib.hid (HA.out w1 (HV.out.keep (fun g hg hl => HK.out.bel.block g hg)) HP.out)
      go_wp2_with fail
      with_reducible refine HA.out.mono ?_
      rintro e w3 ⟨rfl, hp, hk⟩
      go_wp2_with fail
      go_end0
      exact ⟨rfl, hp, HK.out.trans hk⟩
    by_cases h5 : op = 5
    · subst h5
      have HA := Lib.hid (fun w' (hv : LX (· < B) w' (.agg #[.int .i64 5, .int .i64 n, .string (bs nm), .slice a kids.length cap]) (.mk 5 n nm kids)) (hp : Pg B w' b m l) => eq_x n nm kids HE.out m l _ w' hv hp HL.out)
      go_enter Tryd.func37, Tryd.ntmps37
      go_wp2_with fail
      generalize w.alloc (.cells #[.int .i64 5, .int .i64 n, .string (bs nm), .slice a kids.length cap] 31) = w1 at *
      obtain ⟨s0, s1, s2, s3, _, _, _, _⟩ := four_free HB.out
      with_reducible refine (exprOf_any b 5 w1).mono ?_
      rintro e w2 ⟨rfl, rfl⟩
      rw [show fx b 5 = .func (.func 69) #[.pointer (some ⟨b, 0, none⟩)] #[] from rfl]
      have hrun : Sem.run Tryd.prog (binOp BinOp.neq 79 (.func (.func 69) #[.pointer (some ⟨b, 0, none⟩)] #[]) .nilFunc) w1 = .ok (.bool true) w1 := by kernel_rfl
      have HA := Lib.hid (HA.out w1 (HV.out.keep (fun g hg hl => HK.out.bel.block g hg)) HP.out)
      go_wp2_with fail
      with_reducible refine HA.out.mono ?_
      rintro e w3 ⟨rfl, hp, hk⟩
      go_wp2_with fail
      go_end0
      exact ⟨rfl, hp, HK.out.trans hk⟩
    by_cases h6 : op = 6
    · subst h6
      have HA := Lib.hid (fun w' (hv : LX (· < B) w' (.agg #[.int .i64 6, .int .i64 n, .string (bs nm), .slice a kids.length cap]) (.mk 6 n nm kids)) (hp : Pg B w' b m l) => less_x n nm kids HE.out m l _ w' hv hp HL.out)
      go_enter Tryd.func37, Tryd.ntmps37
      go_wp2_with fail
      generalize w.alloc (.cells #[.int .i64 6, .int .i64 n, .string (bs nm), .slice a kids.length cap] 31) = w1 at *
      obtain ⟨s0, s1, s2, s3, _, _, _, _⟩ := four_free HB.out
      with_reducible refine (exprOf_any b 6 w1).mono ?_
      rintro e w2 ⟨rfl, rfl⟩
      rw [show fx b 6 = .func (.func 70) #[.pointer (some ⟨b, 0, none⟩)] #[] from rfl]
      have hrun : Sem.run Tryd.prog (binOp BinOp.neq 79 (.func (.func 70) #[.pointer (some ⟨b, 0, none⟩)] #[]) .nilFunc) w1 = .ok (.bool true) w1 := by kernel_rfl
      have HA := Lib.hid (HA.out w1 (HV.out.keep (fun g hg hl => HK.out.bel.block g hg)) HP.out)
      go_wp2_with fail
      with_reducible refine HA.out.mono ?_
      rintro e w3 ⟨rfl, hp, hk⟩
      go_wp2_with fail
      go_end0
      exact ⟨rfl, hp, HK.out.trans hk⟩
    have hx : P.xE (.mk op n nm kids) = [] := by simp [P.xE, P.midE, h1, h2, h3, h4, h5, h6]
    rw [hx, List.append_nil]
    have HF := Lib.hid (show fx b op = .nilFunc by simp [fx, h1, h2, h3, h4, h5, h6])
    clear hx h1 h2 h3 h4 h5 h6
    go_enter Tryd.func37, Tryd.ntmps37
    go_wp2_with fail
    generalize w.alloc (.cells #[.int .i64 op, .int .i64 n, .string (bs nm), .slice a kids.length cap] 31) = w1 at *
    with_reducible refine (exprOf_any b op w1).mono ?_
    rintro e w2 ⟨rfl, rfl⟩
    rw [HF.out]
    have hrun : Sem.run Tryd.prog (binOp BinOp.neq 79 .nilFunc .nilFunc) w1 = .ok (.bool false) w1 := by kernel_rfl
    go_wp2_with fail
    go_end0
    exact ⟨rfl, HP.out, HK.out⟩
end Go.Proofs.YtchokfgffnomoaaDoor.Lx
/-
  What a page tells of conditions, as contracts.
-/
namespace Go.Proofs.YtchokfgffnomoaaDoor.Lx
open Go.RowKit
open P (EX CO ST)
set_option maxRecDepth 100000
set_option linter.unusedVariables false
set_option linter.unusedSimpArgs false
mutual
/-- Its numbers are ints. -/
def okC : CO → Prop
  | .mk op th name n kids => (I64 th ∧ I64 n) ∧ okCs kids
def okCs : List CO → Prop
  | [] => True
  | e :: es => okC e ∧ okCs es
end
theorem okCs_mem : ∀ {es : List CO}, okCs es → ∀ e ∈ es, okC e
  | [], _, e, he => by cases he
  | x :: es, h, e, he => by
    unfold okCs at h
    rcases List.mem_cons.1 he with rfl | he
    · exact h.1
    · exact okCs_mem h.2 e he
/-- A slice of conditions. -/
def IsCs (Q : Nat → Prop) (w : World) (v : Value) (es : List CO) : Prop := ∃ a c, v = .slice a es.length c ∧ es.length ≤ maxLen ∧ (es = [] ∨ ∃ g off, a = some ⟨g, off, none⟩ ∧ Q g ∧ LCs Q w g off es)
def sideT (es : List CO) (i : Nat) : List UInt8 := (es.map P.xC).getD i []
theorem xCs_map : ∀ es : List CO, P.xCs es = es.map P.xC
  | [] => rfl
  | e :: es => by simp [P.xCs, xCs_map es]
/-- A condition is told onto a page. -/
def CnOk (B b : Nat) (e : CO) : Prop := ∀ (m : Int) (l : List UInt8) (v : Value) (w : World), LC (· < B) w v e → Pg B w b m l → l.length + (P.xC e).length ≤ big → Calls Tryd.prog 39 #[.pointer (some ⟨b, 0, none⟩), v] w (Said B b m (l ++ P.xC e) (.tuple #[]) w)
abbrev fvC (b : Nat) : Value := .func (.func 39) #[.pointer (some ⟨b, 0, none⟩)] #[]
theorem lowC {B b : Nat} {w w' : World} (hk : Kp B b w w') {v : Value} {es : List CO} (h : IsCs (· < B) w v es) : IsCs (· < B) w' v es := by
  obtain ⟨a, c, rfl, hm, h | ⟨g, off, rfl, hg, hs⟩⟩ := h
  · exact ⟨a, c, rfl, hm, .inl h⟩
  · exact ⟨_, c, rfl, hm, .inr ⟨g, off, rfl, hg, LCs.keep (fun g hg hl => hk.bel.block g hg) _ hg hs⟩⟩
theorem five_cells {w : World} {g : Nat} {t : TypeId} {a c d e f : Value} (h : Blk w g t #[a, c, d, e, f]) : w.cell? ⟨g, 0, none⟩ = some a ∧ w.cell? ⟨g, 1, none⟩ = some c ∧ w.cell? ⟨g, 2, none⟩ = some d ∧ w.cell? ⟨g, 3, none⟩ = some e ∧ w.cell? ⟨g, 4, none⟩ = some f := ⟨h.cell 0, h.cell 1, h.cell 2, h.cell 3, h.cell 4⟩
set_option maxHeartbeats 1600000 in
theorem at_c {B b : Nat} (es : List CO) (i : Nat) (z : Int) (hz : z = (i : Int)) (hE : ∀ e ∈ es, CnOk B b e) (m : Int) (l : List UInt8) (v : Value) (w : World) (hv : IsCs (· < B) w v es) (h : Pg B w b m l) (hl : l.length + (sideT es i).length ≤ big) :
    Calls Tryd.prog 88 #[v, .int .i64 z, fvC b] w (Said B b m (l ++ sideT es i) (.tuple #[]) w) := by
  subst hz
  obtain ⟨a, c, rfl, hm, hc⟩ := hv
  unfold maxLen at hm
  have HP := Lib.hid h
  clear h
  by_cases hi : i < es.length
  · rcases hc with rfl | ⟨g, off, rfl, hg, hs⟩
    · simp at hi
    obtain ⟨x, a0, a1, a2, a3, a4, hx, h0, h1, h2, h3, h4, hlx⟩ := LCs.at es hs i hi
    have hk : sideT es i = P.xC x := by simp [sideT, List.getD_eq_getElem?_getD, hx]
    rw [hk] at hl ⊢
    have HE := Lib.hid (hE x (List.mem_of_getElem? hx) m l _ w hlx HP.out hl)
    clear hE hs hx hlx hk hl
    have m1 : (0 : Int) ≤ (i : Int) := by omega
    have m2 : (i : Int) < (es.length : Int) := by omega
    have d1 : decide ((i : Int) < (es.length : Int)) = true := by simp; omega
    have d2 : decide (i < es.length) = true := by simp; omega
    go_enter Tryd.func88, Tryd.ntmps88
    go_wp2_with fail
    with_reducible refine HE.out.mono ?_
    rintro e w2 ⟨rfl, hp, hk⟩
    go_wp2_with fail
    go_end0
    exact ⟨rfl, hp, hk⟩
  · have hk : sideT es i = [] := by simp [sideT, List.getD_eq_getElem?_getD, List.getElem?_eq_none (show es.length ≤ i by omega)]
    rw [hk, List.append_nil]
    have d1 : decide ((i : Int) < (es.length : Int)) = false := by simp; omega
    have d2 : decide (i < es.length) = false := by simp; omega
    clear hE hc hk hl
    go_enter Tryd.func88, Tryd.ntmps88
    go_wp2_with fail
    go_end0
    exact ⟨rfl, HP.out, Kp.refl⟩
set_option maxHeartbeats 1600000 in
theorem pair_c {B b : Nat} (es : List CO) (JB : ByteArray) (J : List UInt8) (hJ : JB = bs J) (hE : ∀ e ∈ es, CnOk B b e) (m : Int) (l : List UInt8) (v : Value) (w : World) (hv : IsCs (· < B) w v es) (h : Pg B w b m l) (hl : l.length + (1 + ((sideT es 0).length + (J.length + ((sideT es 1).length + 1)))) ≤ big) :
    Calls Tryd.prog 89 #[.pointer (some ⟨b, 0, none⟩), v, .string JB, fvC b] w (Said B b m (l ++ ([40] ++ (sideT es 0 ++ (J ++ (sideT es 1 ++ [41]))))) (.tuple #[]) w) := by
  subst hJ
  have HP := Lib.hid h
  have HV := Lib.hid hv
  have HE := Lib.hid hE
  have HL := Lib.hid hl
  clear h hv hE hl
  go_enter Tryd.func89, Tryd.ntmps89
  go_wp2_with fail
  have HS := Lib.hid (say_new _ rfl [⟨#[40]⟩] #[.string ⟨#[40]⟩] 1 rfl rfl HP.out (by have := HL.out; unfold big at this; simp [cat, by']; omega) (by omega))
  with_reducible refine HS.out.mono ?_
  rintro e w1 ⟨rfl, hp1, hk1⟩
  rw [show cat [⟨#[40]⟩] = [40] from rfl] at hp1
  have HA := Lib.hid (at_c es 0 0 rfl HE.out m _ v w1 (lowC hk1 HV.out) hp1 (by have := HL.out; simp; omega))
  clear HS
  go_wp2_with fail
  with_reducible refine HA.out.mono ?_
  rintro e w2 ⟨rfl, hp2, hk2⟩
  clear HA hp1
  go_wp2_with fail
  have HS := Lib.hid (say_new _ rfl [bs J] #[.string (bs J)] 1 rfl rfl hp2 (by have := HL.out; unfold big at this; simp [cat, by_bs]; omega) (by omega))
  with_reducible refine HS.out.mono ?_
  rintro e w3 ⟨rfl, hp3, hk3⟩
  rw [show cat [bs J] = J by simp [cat, by_bs]] at hp3
  have HA := Lib.hid (at_c es 1 1 rfl HE.out m _ v w3 (lowC (hk1.trans (hk2.trans hk3)) HV.out) hp3 (by have := HL.out; simp; omega))
  clear HS hp2
  go_wp2_with fail
  with_reducible refine HA.out.mono ?_
  rintro e w4 ⟨rfl, hp4, hk4⟩
  clear HA hp3
  go_wp2_with fail
  have HS := Lib.hid (say_new _ rfl [⟨#[41]⟩] #[.string ⟨#[41]⟩] 1 rfl rfl hp4 (by have := HL.out; unfold big at this; simp [cat, by']; omega) (by omega))
  with_reducible refine HS.out.mono ?_
  rintro e w5 ⟨rfl, hp5, hk5⟩
  rw [show cat [⟨#[41]⟩] = [41] from rfl] at hp5
  go_wp2_with fail
  go_end0
  refine ⟨rfl, ?_, hk1.trans (hk2.trans (hk3.trans (hk4.trans hk5)))⟩
  have e : (((l ++ [40]) ++ sideT es 0) ++ J) ++ sideT es 1 ++ [41] = l ++ ([40] ++ (sideT es 0 ++ (J ++ (sideT es 1 ++ [41])))) := by simp
  rw [e] at hp5
  exact hp5
set_option maxHeartbeats 1600000 in
theorem and_c {B b : Nat} (th : Int) (nm : List UInt8) (n : Int) (ks : List CO) (hE : ∀ e ∈ ks, CnOk B b e) (m : Int) (l : List UInt8) (v : Value) (w : World) (hv : LC (· < B) w v (.mk 4 th nm n ks)) (h : Pg B w b m l) (hl : l.length + (P.xC (.mk 4 th nm n ks)).length ≤ big) :
    Calls Tryd.prog 74 #[.pointer (some ⟨b, 0, none⟩), v] w (Said B b m (l ++ P.xC (.mk 4 th nm n ks)) (.tuple #[]) w) := by
  have hx : P.xC (.mk 4 th nm n ks) = [40] ++ (sideT ks 0 ++ ([32, 97, 110, 100, 32] ++ (sideT ks 1 ++ [41]))) := by simp [P.xC, sideT, xCs_map]
  rw [hx] at hl ⊢
  unfold LC at hv
  obtain ⟨a, cap, rfl, hm, hc⟩ := hv
  have HW := Lib.hid (show Below w.heap.size w (w.alloc (.cells #[.int .i64 4, .int .i64 th, .string (bs nm), .int .i64 n, .slice a ks.length cap] 26)) from (Below.refl _ _).alloc (Nat.le_refl _) _)
  have HK := Lib.hid (show Kp B b w (w.alloc (.cells #[.int .i64 4, .int .i64 th, .string (bs nm), .int .i64 n, .slice a ks.length cap] 26)) from Kp.below HW.out h.low)
  have HB := Lib.hid (Blk.new w 26 #[.int .i64 4, .int .i64 th, .string (bs nm), .int .i64 n, .slice a ks.length cap])
  have HP := Lib.hid (h.below HW.out)
  have HL := Lib.hid hl
  have hwb : w.heap.size ≠ b := by have := h.lt; omega
  have HA := Lib.hid (pair_c ks ⟨#[32, 97, 110, 100, 32]⟩ [32, 97, 110, 100, 32] rfl hE m l (.slice a ks.length cap) _ (lowC HK.out ⟨a, cap, rfl, hm, hc⟩) HP.out (by simp only [List.length_append, List.length_cons, List.length_nil] at hl ⊢; omega))
  clear hE hc h hl hx HB
  go_enter Tryd.func74, Tryd.ntmps74
  go_wp2_with fail
  with_reducible refine HA.out.mono ?_
  rintro e w2 ⟨rfl, hp, hk⟩
  go_wp2_with fail
  go_end0
  exact ⟨rfl, hp, HK.out.trans hk⟩
set_option maxHeartbeats 1600000 in
theorem or_c {B b : Nat} (th : Int) (nm : List UInt8) (n : Int) (ks : List CO) (hE : ∀ e ∈ ks, CnOk B b e) (m : Int) (l : List UInt8) (v : Value) (w : World) (hv : LC (· < B) w v (.mk 5 th nm n ks)) (h : Pg B w b m l) (hl : l.length + (P.xC (.mk 5 th nm n ks)).length ≤ big) :
    Calls Tryd.prog 75 #[.pointer (some ⟨b, 0, none⟩), v] w (Said B b m (l ++ P.xC (.mk 5 th nm n ks)) (.tuple #[]) w) := by
  have hx : P.xC (.mk 5 th nm n ks) = [40] ++ (sideT ks 0 ++ ([32, 111, 114, 32] ++ (sideT ks 1 ++ [41]))) := by simp [P.xC, sideT, xCs_map]
  rw [hx] at hl ⊢
  unfold LC at hv
  obtain ⟨a, cap, rfl, hm, hc⟩ := hv
  have HW := Lib.hid (show Below w.heap.size w (w.alloc (.cells #[.int .i64 5, .int .i64 th, .string (bs nm), .int .i64 n, .slice a ks.length cap] 26)) from (Below.refl _ _).alloc (Nat.le_refl _) _)
  have HK := Lib.hid (show Kp B b w (w.alloc (.cells #[.int .i64 5, .int .i64 th, .string (bs nm), .int .i64 n, .slice a ks.length cap] 26)) from Kp.below HW.out h.low)
  have HB := Lib.hid (Blk.new w 26 #[.int .i64 5, .int .i64 th, .string (bs nm), .int .i64 n, .slice a ks.length cap])
  have HP := Lib.hid (h.below HW.out)
  have HL := Lib.hid hl
  have hwb : w.heap.size ≠ b := by have := h.lt; omega
  have HA := Lib.hid (pair_c ks ⟨#[32, 111, 114, 32]⟩ [32, 111, 114, 32] rfl hE m l (.slice a ks.length cap) _ (lowC HK.out ⟨a, cap, rfl, hm, hc⟩) HP.out (by simp only [List.length_append, List.length_cons, List.length_nil] at hl ⊢; omega))
  clear hE hc h hl hx HB
  go_enter Tryd.func75, Tryd.ntmps75
  go_wp2_with fail
  with_reducible refine HA.out.mono ?_
  rintro e w2 ⟨rfl, hp, hk⟩
  go_wp2_with fail
  go_end0
  exact ⟨rfl, hp, HK.out.trans hk⟩
set_option maxHeartbeats 1600000 in
theorem not_c {B b : Nat} (th : Int) (nm : List UInt8) (n : Int) (ks : List CO) (hE : ∀ e ∈ ks, CnOk B b e) (m : Int) (l : List UInt8) (v : Value) (w : World) (hv : LC (· < B) w v (.mk 3 th nm n ks)) (h : Pg B w b m l) (hl : l.length + (P.xC (.mk 3 th nm n ks)).length ≤ big) :
    Calls Tryd.prog 73 #[.pointer (some ⟨b, 0, none⟩), v] w (Said B b m (l ++ P.xC (.mk 3 th nm n ks)) (.tuple #[]) w) := by
  have hx : P.xC (.mk 3 th nm n ks) = [110, 111, 116, 32] ++ sideT ks 0 := by simp [P.xC, sideT, xCs_map]
  rw [hx] at hl ⊢
  unfold LC at hv
  obtain ⟨a, cap, rfl, hm, hc⟩ := hv
  have HW := Lib.hid (show Below w.heap.size w (w.alloc (.cells #[.int .i64 3, .int .i64 th, .string (bs nm), .int .i64 n, .slice a ks.length cap] 26)) from (Below.refl _ _).alloc (Nat.le_refl _) _)
  have HK := Lib.hid (show Kp B b w (w.alloc (.cells #[.int .i64 3, .int .i64 th, .string (bs nm), .int .i64 n, .slice a ks.length cap] 26)) from Kp.below HW.out h.low)
  have HB := Lib.hid (Blk.new w 26 #[.int .i64 3, .int .i64 th, .string (bs nm), .int .i64 n, .slice a ks.length cap])
  have HP := Lib.hid (h.below HW.out)
  have HL := Lib.hid hl
  have hwb : w.heap.size ≠ b := by have := h.lt; omega
  have HV := Lib.hid (lowC HK.out ⟨a, cap, rfl, hm, hc⟩)
  have HE := Lib.hid hE
  clear hE hc h hl hx
  go_enter Tryd.func73, Tryd.ntmps73
  go_wp2_with fail
  have hs1 : w.heap.size + 1 = (w.alloc (.cells #[.int .i64 3, .int .i64 th, .string (bs nm), .int .i64 n, .slice a ks.length cap] 26)).heap.size := by simp
  generalize w.alloc (.cells #[.int .i64 3, .int .i64 th, .string (bs nm), .int .i64 n, .slice a ks.length cap] 26) = w1 at *
  have HS := Lib.hid (say_new (w.heap.size + 1) hs1 [⟨#[110, 111, 116, 32]⟩] #[.string ⟨#[110, 111, 116, 32]⟩] 1 rfl rfl HP.out (by have := HL.out; unfold big at this; simp [cat, by'] at *; omega) (by omega))
  with_reducible refine HS.out.mono ?_
  rintro e w2 ⟨rfl, hp2, hk2⟩
  rw [show cat [⟨#[110, 111, 116, 32]⟩] = [110, 111, 116, 32] from rfl] at hp2
  obtain ⟨s0, s1, s2, s3, s4⟩ := five_cells (hk2.blk _ _ _ (by decide) hwb HB.out)
  have HA := Lib.hid (at_c ks 0 0 rfl HE.out m _ _ w2 (lowC hk2 HV.out) hp2 (by have := HL.out; simp at *; omega))
  clear HS
  go_wp2_with fail
  with_reducible refine HA.out.mono ?_
  rintro e w3 ⟨rfl, hp3, hk3⟩
  go_wp2_with fail
  go_end0
  rw [List.append_assoc] at hp3
  exact ⟨rfl, hp3, HK.out.trans (hk2.trans hk3)⟩
set_option maxHeartbeats 1600000 in
theorem mem_c {B b : Nat} (th : Int) (nm : List UInt8) (n : Int) (ks : List CO) (op : Int) (hn : I64 n) (m : Int) (l : List UInt8) (v : Value) (w : World) (hv : LC (· < B) w v (.mk op th nm n ks)) (h : Pg B w b m l) (hl : l.length + (nm ++ ([32, 61, 61, 32] ++ P.xN n)).length ≤ big) :
    Calls Tryd.prog 71 #[.pointer (some ⟨b, 0, none⟩), v] w (Said B b m (l ++ nm ++ ([32, 61, 61, 32] ++ P.xN n)) (.tuple #[]) w) := by
  unfold LC at hv
  obtain ⟨a, cap, rfl, hm, hc⟩ := hv
  have HW := Lib.hid (show Below w.heap.size w (w.alloc (.cells #[.int .i64 op, .int .i64 th, .string (bs nm), .int .i64 n, .slice a ks.length cap] 26)) from (Below.refl _ _).alloc (Nat.le_refl _) _)
  have HK := Lib.hid (show Kp B b w (w.alloc (.cells #[.int .i64 op, .int .i64 th, .string (bs nm), .int .i64 n, .slice a ks.length cap] 26)) from Kp.below HW.out h.low)
  have HB := Lib.hid (Blk.new w 26 #[.int .i64 op, .int .i64 th, .string (bs nm), .int .i64 n, .slice a ks.length cap])
  have HP := Lib.hid (h.below HW.out)
  have HL := Lib.hid hl
  have hwb : w.heap.size ≠ b := by have := h.lt; omega
  clear hc h hl
  have HN := Lib.hid hn
  go_enter Tryd.func71, Tryd.ntmps71
  go_wp2_with fail
  have hs1 : w.heap.size + 1 = (w.alloc (.cells #[.int .i64 op, .int .i64 th, .string (bs nm), .int .i64 n, .slice a ks.length cap] 26)).heap.size := by simp
  generalize (w.alloc (.cells #[.int .i64 op, .int .i64 th, .string (bs nm), .int .i64 n, .slice a ks.length cap] 26)) = w1 at *
  have HS := Lib.hid (say_new (w.heap.size + 1) hs1 [bs nm, ⟨#[32, 61, 61, 32]⟩] #[.string (bs nm), .string ⟨#[32, 61, 61, 32]⟩] 2 rfl rfl HP.out (by
    rw [show cat [bs nm, ⟨#[32, 61, 61, 32]⟩] = nm ++ [32, 61, 61, 32] by simp only [cat, List.map_cons, List.map_nil, List.flatten_cons, List.flatten_nil, by_bs, List.append_nil] <;> rfl]
    have h9 := HL.out
    simp only [List.length_append, List.length_cons, List.length_nil] at h9 ⊢
    unfold big at h9
    omega) (by omega))
  with_reducible refine HS.out.mono ?_
  rintro e w2 ⟨rfl, hp2, hk2⟩
  rw [show cat [bs nm, ⟨#[32, 61, 61, 32]⟩] = nm ++ [32, 61, 61, 32] by simp only [cat, List.map_cons, List.map_nil, List.flatten_cons, List.flatten_nil, by_bs, List.append_nil] <;> rfl] at hp2
  obtain ⟨s0, s1, s2, s3, s4⟩ := five_cells (hk2.blk _ _ _ (by decide) hwb HB.out)
  have HA := Lib.hid (pgnum_any n HN.out hp2 (by have := HL.out; unfold big at this; simp at *; omega))
  clear HS
  go_wp2_with fail
  with_reducible refine HA.out.mono ?_
  rintro e w3 ⟨rfl, hp3, hk3⟩
  go_wp2_with fail
  go_end0
  refine ⟨rfl, ?_, HK.out.trans (hk2.trans hk3)⟩
  simp only [List.append_assoc, List.cons_append, List.nil_append] at hp3 ⊢
  exact hp3
set_option maxHeartbeats 1600000 in
theorem regIs_c {B b : Nat} (th : Int) (nm : List UInt8) (n : Int) (ks : List CO) (hn : I64 n) (ht : I64 th) (m : Int) (l : List UInt8) (v : Value) (w : World) (hv : LC (· < B) w v (.mk 2 th nm n ks)) (h : Pg B w b m l) (hl : l.length + (P.xC (.mk 2 th nm n ks)).length ≤ big) :
    Calls Tryd.prog 72 #[.pointer (some ⟨b, 0, none⟩), v] w (Said B b m (l ++ P.xC (.mk 2 th nm n ks)) (.tuple #[]) w) := by
  have hx : P.xC (.mk 2 th nm n ks) = P.xN th ++ ([58] ++ (nm ++ ([32, 61, 61, 32] ++ P.xN n))) := by simp [P.xC]
  rw [hx] at hl ⊢
  have HV0 := Lib.hid hv
  unfold LC at hv
  obtain ⟨a, cap, rfl, hm, hc⟩ := hv
  have HW := Lib.hid (show Below w.heap.size w (w.alloc (.cells #[.int .i64 2, .int .i64 th, .string (bs nm), .int .i64 n, .slice a ks.length cap] 26)) from (Below.refl _ _).alloc (Nat.le_refl _) _)
  have HK := Lib.hid (show Kp B b w (w.alloc (.cells #[.int .i64 2, .int .i64 th, .string (bs nm), .int .i64 n, .slice a ks.length cap] 26)) from Kp.below HW.out h.low)
  have HB := Lib.hid (Blk.new w 26 #[.int .i64 2, .int .i64 th, .string (bs nm), .int .i64 n, .slice a ks.length cap])
  have HP := Lib.hid (h.below HW.out)
  have HL := Lib.hid hl
  have hwb : w.heap.size ≠ b := by have := h.lt; omega
  clear hc h hl
  have HN := Lib.hid hn
  have HT := Lib.hid ht
  go_enter Tryd.func72, Tryd.ntmps72
  go_wp2_with fail
  generalize (w.alloc (.cells #[.int .i64 2, .int .i64 th, .string (bs nm), .int .i64 n, .slice a ks.length cap] 26)) = w1 at *
  have HA := Lib.hid (pgnum_any th HT.out HP.out (by have := HL.out; unfold big at this; omega))
  with_reducible refine HA.out.mono ?_
  rintro e w2 ⟨rfl, hp2, hk2⟩
  clear HA
  go_wp2_with fail
  have HS := Lib.hid (say_new _ rfl [⟨#[58]⟩] #[.string ⟨#[58]⟩] 1 rfl rfl hp2 (by have := HL.out; unfold big at this; simp [cat, by'] at *; omega) (by omega))
  with_reducible refine HS.out.mono ?_
  rintro e w3 ⟨rfl, hp3, hk3⟩
  rw [show cat [⟨#[58]⟩] = [58] from rfl] at hp3
  clear HS
  obtain ⟨s0, s1, s2, s3, s4⟩ := five_cells ((hk2.trans hk3).blk _ _ _ (by decide) hwb HB.out)
  have HA := Lib.hid (mem_c th nm n ks 2 HN.out m _ _ w3 (HV0.out.keep (fun g hg hl => (HK.out.trans (hk2.trans hk3)).bel.block g hg)) hp3 (by have := HL.out; simp at *; omega))
  go_wp2_with fail
  with_reducible refine HA.out.mono ?_
  rintro e w4 ⟨rfl, hp4, hk4⟩
  go_wp2_with fail
  go_end0
  refine ⟨rfl, ?_, HK.out.trans (hk2.trans (hk3.trans hk4))⟩
  simp only [List.append_assoc, List.cons_append, List.nil_append] at hp4 ⊢
  exact hp4
/-- What tells conditions of that kind. -/
def fc (b : Nat) (op : Int) : Value := if op = 1 then .func (.func 71) #[.pointer (some ⟨b, 0, none⟩)] #[] else if op = 2 then .func (.func 72) #[.pointer (some ⟨b, 0, none⟩)] #[] else if op = 3 then .func (.func 73) #[.pointer (some ⟨b, 0, none⟩)] #[] else if op = 4 then .func (.func 74) #[.pointer (some ⟨b, 0, none⟩)] #[] else if op = 5 then .func (.func 75) #[.pointer (some ⟨b, 0, none⟩)] #[] else .nilFunc
set_option maxHeartbeats 1600000 in
theorem condOf_any (b : Nat) (op : Int) (w : World) : Calls Tryd.prog 56 #[.pointer (some ⟨b, 0, none⟩), .int .i64 op] w (fun e w' => e = .returned (fc b op) ∧ w = w') := by
  by_cases h1 : op = 1
  · subst h1
    show Calls Tryd.prog 56 #[.pointer (some ⟨b, 0, none⟩), .int .i64 1] w (fun e w' => e = .returned (.func (.func 71) #[.pointer (some ⟨b, 0, none⟩)] #[]) ∧ w = w')
    go_enter Tryd.func56, Tryd.ntmps56
    go_wp2_with fail
    go_ret
    exact ⟨rfl, rfl⟩
  by_cases h2 : op = 2
  · subst h2
    show Calls Tryd.prog 56 #[.pointer (some ⟨b, 0, none⟩), .int .i64 2] w (fun e w' => e = .returned (.func (.func 72) #[.pointer (some ⟨b, 0, none⟩)] #[]) ∧ w = w')
    go_enter Tryd.func56, Tryd.ntmps56
    go_wp2_with fail
    go_ret
    exact ⟨rfl, rfl⟩
  by_cases h3 : op = 3
  · subst h3
    show Calls Tryd.prog 56 #[.pointer (some ⟨b, 0, none⟩), .int .i64 3] w (fun e w' => e = .returned (.func (.func 73) #[.pointer (some ⟨b, 0, none⟩)] #[]) ∧ w = w')
    go_enter Tryd.func56, Tryd.ntmps56
    go_wp2_with fail
    go_ret
    exact ⟨rfl, rfl⟩
  by_cases h4 : op = 4
  · subst h4
    show Calls Tryd.prog 56 #[.pointer (some ⟨b, 0, none⟩), .int .i64 4] w (fun e w' => e = .returned (.func (.func 74) #[.pointer (some ⟨b, 0, none⟩)] #[]) ∧ w = w')
    go_enter Tryd.func56, Tryd.ntmps56
    go_wp2_with fail
    go_ret
    exact ⟨rfl, rfl⟩
  by_cases h5 : op = 5
  · subst h5
    show Calls Tryd.prog 56 #[.pointer (some ⟨b, 0, none⟩), .int .i64 5] w (fun e w' => e = .returned (.func (.func 75) #[.pointer (some ⟨b, 0, none⟩)] #[]) ∧ w = w')
    go_enter Tryd.func56, Tryd.ntmps56
    go_wp2_with fail
    go_ret
    exact ⟨rfl, rfl⟩
  have e1 : (op == 1) = false := by simp; omega
  have e2 : (op == 2) = false := by simp; omega
  have e3 : (op == 3) = false := by simp; omega
  have e4 : (op == 4) = false := by simp; omega
  have e5 : (op == 5) = false := by simp; omega
  have hf : fc b op = .nilFunc := by simp [fc, h1, h2, h3, h4, h5]
  rw [hf]
  clear hf
  go_enter Tryd.func56, Tryd.ntmps56
  go_wp2_with fail
  go_ret
  exact ⟨rfl, rfl⟩
end Go.Proofs.YtchokfgffnomoaaDoor.Lx
/-
  What a page tells of any condition, as a contract.
-/
namespace Go.Proofs.YtchokfgffnomoaaDoor.Lx
open Go.RowKit
open P (EX CO ST)
set_option maxRecDepth 100000
set_option linter.unusedVariables false
set_option linter.unusedSimpArgs false
set_option maxHeartbeats 6400000 in
theorem pgcond_any {B b : Nat} : ∀ (N : Nat) (e : CO), CO.size e ≤ N → okC e → CnOk B b e
  | 0, .mk op th nm n ks, hN, hok => by
    unfold CO.size at hN
    omega
  | N + 1, .mk op th nm n ks, hN, hok => by
    intro m l v w hv h hl
    unfold okC at hok
    obtain ⟨⟨hth, hn⟩, hks⟩ := hok
    have hE : ∀ e ∈ ks, CnOk B b e := fun e he => by
      obtain ⟨i, hi⟩ := List.getElem?_of_mem he
      have h1 := sizec_mem ks i e hi
      unfold CO.size at hN
      exact pgcond_any N e (by omega) (okCs_mem hks e he)
    have HE := Lib.hid hE
    have HL := Lib.hid hl
    have HN := Lib.hid hn
    have HT := Lib.hid hth
    have hv0 := hv
    unfold LC at hv0
    obtain ⟨a, cap, rfl, hm, hc⟩ := hv0
    have HV := Lib.hid hv
    have HB := Lib.hid (Blk.new w 26 #[.int .i64 op, .int .i64 th, .string (bs nm), .int .i64 n, .slice a ks.length cap])
    have HW := Lib.hid (show Below w.heap.size w (w.alloc (.cells #[.int .i64 op, .int .i64 th, .string (bs nm), .int .i64 n, .slice a ks.length cap] 26)) from (Below.refl _ _).alloc (Nat.le_refl _) _)
    have HK := Lib.hid (show Kp B b w (w.alloc (.cells #[.int .i64 op, .int .i64 th, .string (bs nm), .int .i64 n, .slice a ks.length cap] 26)) from Kp.below HW.out h.low)
    have HP := Lib.hid (h.below HW.out)
    clear hE hl hn hth hc hv hks h hm hN
    by_cases h1 : op = 1
    · subst h1
      have hmem : P.xC (.mk 1 th nm n ks) = nm ++ ([32, 61, 61, 32] ++ P.xN n) := by simp [P.xC]
      have HA := Lib.hid (fun w' (hv : LC (· < B) w' (.agg #[.int .i64 1, .int .i64 th, .string (bs nm), .int .i64 n, .slice a ks.length cap]) (.mk 1 th nm n ks)) (hp : Pg B w' b m l) => mem_c th nm n ks 1 HN.out m l _ w' hv hp (by rw [← hmem]; exact HL.out))
      rw [hmem]
      clear hmem
      go_enter Tryd.func39, Tryd.ntmps39
      go_wp2_with fail
      generalize (w.alloc (.cells #[.int .i64 1, .int .i64 th, .string (bs nm), .int .i64 n, .slice a ks.length cap] 26)) = w1 at *
      obtain ⟨s0, s1, s2, s3, s4⟩ := five_cells HB.out
      with_reducible refine (condOf_any b 1 w1).mono ?_
      rintro e w2 ⟨rfl, rfl⟩
      rw [show fc b 1 = .func (.func 71) #[.pointer (some ⟨b, 0, none⟩)] #[] from rfl]
      have hrun : Sem.run Tryd.prog (binOp BinOp.neq 81 (.func (.func 71) #[.pointer (some ⟨b, 0, none⟩)] #[]) .nilFunc) w1 = .ok (.bool true) w1 := by kernel_rfl
      have HA := Lib.hid (HA.out w1 (HV.out.keep (fun g hg hl => HK.out.bel.block g hg)) HP.out)
      go_wp2_with fail
      with_reducible refine HA.out.mono ?_
      rintro e w3 ⟨rfl, hp, hk⟩
      go_wp2_with fail
      go_end0
      refine ⟨rfl, ?_, HK.out.trans hk⟩
      simp only [List.append_assoc, List.cons_append, List.nil_append] at hp ⊢
      exact hp
    by_cases h2 : op = 2
    · subst h2
      have HA := Lib.hid (fun w' (hv : LC (· < B) w' (.agg #[.int .i64 2, .int .i64 th, .string (bs nm), .int .i64 n, .slice a ks.length cap]) (.mk 2 th nm n ks)) (hp : Pg B w' b m l) => regIs_c th nm n ks HN.out HT.out m l _ w' hv hp HL.out)
      go_enter Tryd.func39, Tryd.ntmps39
      go_wp2_with fail
      generalize (w.alloc (.cells #[.int .i64 2, .int .i64 th, .string (bs nm), .int .i64 n, .slice a ks.length cap] 26)) = w1 at *
      obtain ⟨s0, s1, s2, s3, s4⟩ := five_cells HB.out
      with_reducible refine (condOf_any b 2 w1).mono ?_
      rintro e w2 ⟨rfl, rfl⟩
      rw [show fc b 2 = .func (.func 72) #[.pointer (some ⟨b, 0, none⟩)] #[] from rfl]
      have hrun : Sem.run Tryd.prog (binOp BinOp.neq 81 (.func (.func 72) #[.pointer (some ⟨b, 0, none⟩)] #[]) .nilFunc) w1 = .ok (.bool true) w1 := by kernel_rfl
      have HA := Lib.hid (HA.out w1 (HV.out.keep (fun g hg hl => HK.out.bel.block g hg)) HP.out)
      go_wp2_with fail
      with_reducible refine HA.out.mono ?_
      rintro e w3 ⟨rfl, hp, hk⟩
      go_wp2_with fail
      go_end0
      exact ⟨rfl, hp, HK.out.trans hk⟩
    by_cases h3 : op = 3
    · subst h3
      have HA := Lib.hid (fun w' (hv : LC (· < B) w' (.agg #[.int .i64 3, .int .i64 th, .string (bs nm), .int .i64 n, .slice a ks.length cap]) (.mk 3 th nm n ks)) (hp : Pg B w' b m l) => not_c th nm n ks HE.out m l _ w' hv hp HL.out)
      go_enter Tryd.func39, Tryd.ntmps39
      go_wp2_with fail
      generalize (w.alloc (.cells #[.int .i64 3, .int .i64 th, .string (bs nm), .int .i64 n, .slice a ks.length cap] 26)) = w1 at *
      obtain ⟨s0, s1, s2, s3, s4⟩ := five_cells HB.out
      with_reducible refine (condOf_any b 3 w1).mono ?_
      rintro e w2 ⟨rfl, rfl⟩
      rw [show fc b 3 = .func (.func 73) #[.pointer (some ⟨b, 0, none⟩)] #[] from rfl]
      have hrun : Sem.run Tryd.prog (binOp BinOp.neq 81 (.func (.func 73) #[.pointer (some ⟨b, 0, none⟩)] #[]) .nilFunc) w1 = .ok (.bool true) w1 := by kernel_rfl
      have HA := Lib.hid (HA.out w1 (HV.out.keep (fun g hg hl => HK.out.bel.block g hg)) HP.out)
      go_wp2_with fail
      with_reducible refine HA.out.mono ?_
      rintro e w3 ⟨rfl, hp, hk⟩
      go_wp2_with fail
      go_end0
      exact ⟨rfl, hp, HK.out.trans hk⟩
    by_cases h4 : op = 4
    · subst h4
      have HA := Lib.hid (fun w' (hv : LC (· < B) w' (.agg #[.int .i64 4, .int .i64 th, .string (bs nm), .int .i64 n, .slice a ks.length cap]) (.mk 4 th nm n ks)) (hp : Pg B w' b m l) => and_c th nm n ks HE.out m l _ w' hv hp HL.out)
      go_enter Tryd.func39, Tryd.ntmps39
      go_wp2_with fail
      generalize (w.alloc (.cells #[.int .i64 4, .int .i64 th, .string (bs nm), .int .i64 n, .slice a ks.length cap] 26)) = w1 at *
      obtain ⟨s0, s1, s2, s3, s4⟩ := five_cells HB.out
      with_reducible refine (condOf_any b 4 w1).mono ?_
      rintro e w2 ⟨rfl, rfl⟩
      rw [show fc b 4 = .func (.func 74) #[.pointer (some ⟨b, 0, none⟩)] #[] from rfl]
      have hrun : Sem.run Tryd.prog (binOp BinOp.neq 81 (.func (.func 74) #[.pointer (some ⟨b, 0, none⟩)] #[]) .nilFunc) w1 = .ok (.bool true) w1 := by kernel_rfl
      have HA := Lib.hid (HA.out w1 (HV.out.keep (fun g hg hl => HK.out.bel.block g hg)) HP.out)
      go_wp2_with fail
      with_reducible refine HA.out.mono ?_
      rintro e w3 ⟨rfl, hp, hk⟩
      go_wp2_with fail
      go_end0
      exact ⟨rfl, hp, HK.out.trans hk⟩
    by_cases h5 : op = 5
    · subst h5
      have HA := Lib.hid (fun w' (hv : LC (· < B) w' (.agg #[.int .i64 5, .int .i64 th, .string (bs nm), .int .i64 n, .slice a ks.length cap]) (.mk 5 th nm n ks)) (hp : Pg B w' b m l) => or_c th nm n ks HE.out m l _ w' hv hp HL.out)
      go_enter Tryd.func39, Tryd.ntmps39
      go_wp2_with fail
      generalize (w.alloc (.cells #[.int .i64 5, .int .i64 th, .string (bs nm), .int .i64 n, .slice a ks.length cap] 26)) = w1 at *
      obtain ⟨s0, s1, s2, s3, s4⟩ := five_cells HB.out
      with_reducible refine (condOf_any b 5 w1).mono ?_
      rintro e w2 ⟨rfl, rfl⟩
      rw [show fc b 5 = .func (.func 75) #[.pointer (some ⟨b, 0, none⟩)] #[] from rfl]
      have hrun : Sem.run Tryd.prog (binOp BinOp.neq 81 (.func (.func 75) #[.pointer (some ⟨b, 0, none⟩)] #[]) .nilFunc) w1 = .ok (.bool true) w1 := by kernel_rfl
      have HA := Lib.hid (HA.out w1 (HV.out.keep (fun g hg hl => HK.out.bel.block g hg)) HP.out)
      go_wp2_with fail
      with_reducible refine HA.out.mono ?_
      rintro e w3 ⟨rfl, hp, hk⟩
      go_wp2_with fail
      go_end0
      exact ⟨rfl, hp, HK.out.trans hk⟩
    have hx : P.xC (.mk op th nm n ks) = [] := by simp [P.xC, h1, h2, h3, h4, h5]
    rw [hx, List.append_nil]
    have HF := Lib.hid (show fc b op = .nilFunc by simp [fc, h1, h2, h3, h4, h5])
    clear hx h1 h2 h3 h4 h5
    go_enter Tryd.func39, Tryd.ntmps39
    go_wp2_with fail
    generalize (w.alloc (.cells #[.int .i64 op, .int .i64 th, .string (bs nm), .int .i64 n, .slice a ks.length cap] 26)) = w1 at *
    with_reducible refine (condOf_any b op w1).mono ?_
    rintro e w2 ⟨rfl, rfl⟩
    rw [HF.out]
    have hrun : Sem.run Tryd.prog (binOp BinOp.neq 81 .nilFunc .nilFunc) w1 = .ok (.bool false) w1 := by kernel_rfl
    go_wp2_with fail
    go_end0
    exact ⟨rfl, HP.out, HK.out⟩
end Go.Proofs.YtchokfgffnomoaaDoor.Lx
/-
  What (*strings.Builder).String tells at a page, as a contract.
-/
namespace Go.Proofs.YtchokfgffnomoaaDoor.Lx
open Go.RowKit
set_option maxRecDepth 100000
set_option linter.unusedVariables false
set_option linter.unusedSimpArgs false
set_option maxHeartbeats 6400000 in
theorem string_any {B b : Nat} {m : Int} {l : List UInt8} {w : World} (h : Pg B w b m l) (h0 : l ≠ []) :
    Calls Tryd.prog 34 #[.pointer (some ⟨b, 0, none⟩)] w (fun e w' => e = .returned (.string (bs l)) ∧ Below B w w') := by
  obtain ⟨p, v, hp, hbk, hown⟩ := h.blk
  have hl0 : l.length ≠ 0 := by simpa using h0
  obtain ⟨g, cap, cur, rfl, hbg, hg, hnc, hcm, hcs, htake⟩ : ∃ g cap cur, v = .slice (some ⟨g, 0, none⟩) l.length cap ∧ B ≤ g ∧ w.heap[g]? = some (.cells cur 5 (0, 0)) ∧ l.length ≤ cap ∧ cap ≤ maxLen ∧ cur.size = cap * 1 ∧ cur.toList.take (l.length * 1) = Lib.byteCells l := by
    rcases hown.2 with ⟨_, hz⟩ | ⟨g, cap, cur, hv, r⟩
    · exact absurd hz hl0
    · exact ⟨g, cap, cur, hv, r⟩
  have c1 : w.drew.cell? ⟨b, 1, none⟩ = some (.slice (some ⟨g, 0, none⟩) l.length cap) := hbk.cell 1
  have hSD : (Builtin.unsafeSliceData_ #[54] 95 #[.slice (some ⟨g, 0, none⟩) l.length cap]).run Tryd.prog w.drew = .ok (.pointer (some ⟨g, 0, none⟩)) w.drew :=
    Lib.run_unsafeSliceData_row _ _ _ _ _ _ (by omega)
  have hUS : (Builtin.unsafeString_ #[95, 3] 9 #[.pointer (some ⟨g, 0, none⟩), .int .i64 l.length]).run Tryd.prog w.drew = .ok (.string ⟨l.toArray⟩) (w.drew.freeze ⟨g, 0, none⟩ l.length) := by
    refine Lib.run_unsafeString_row w.drew 95 3 9 5 Tryd.underlying95 Tryd.cellsU8 g cur.size (by have hg' : w.drew.heap[g]? = some (.cells cur 5 (0, 0)) := hg; simp [World.shape?, hg']) l h0 (by omega) (by unfold maxLen at hcm; omega) ?_
    intro j x hx
    have := hown.cells (g := g) rfl j (.int .u8 x.toNat) (by simp [Lib.byteCells, hx])
    exact this
  clear htake hcs hcm hnc hl0 h0 hown hg h
  go_enter Tryd.func34, Tryd.ntmps34
  go_wp2_with fail
  go_region
  all_goals (go_wp2; go_ret; exact ⟨rfl, Lib.below_freeze (Below.drew (Below.refl B w)) (p := ⟨g, 0, none⟩) hbg _⟩)
end Go.Proofs.YtchokfgffnomoaaDoor.Lx
