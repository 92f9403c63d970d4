/-
  Words for memory that the contracts of package rel use: a slice that reads as a list of rows, a block that is known whole; and the loop 'each' of package rel, for whatever function is handed to it.
-/
import Derived.Test.YtokehiehfgffmaaDoorBRef
import Derived.Test.YtokehiehfgffmaaDoorRMath
import Derived.Deep.QuietTactic
import Derived.BigQuiet
import Derived.WalkSmall
namespace Go.Proofs.YtokehiehfgffmaaDoor
open Go.RowKit
set_option linter.unusedVariables false
set_option linter.unusedSimpArgs false

/-- The library's table is there. -/
def Tb (w : World) : Prop := Tab w ∧ 0 < w.heap.size
theorem Tb.below {w w' : World} (h : Tb w) (hb : Below w.heap.size w w') : Tb w' := ⟨h.1.below h.2 hb, Nat.lt_of_lt_of_le h.2 hb.size⟩
theorem Tb.base {w w' : World} {base : Nat} (h : Tb w) (hg : 0 < base) (hb : Below base w w') : Tb w' :=
  ⟨fun j hj => by rw [hb.cell (p := ⟨0, j, none⟩) hg]; exact h.1 j hj, Nat.lt_of_lt_of_le h.2 hb.size⟩
theorem Tb.drewN {w : World} (h : Tb w) (n : Nat) : Tb (w.drewN n) := h

/-- Block g is just these cells, none frozen. -/
def Blk (w : World) (g : Nat) (t : TypeId) (cs : Array Value) : Prop := w.heap[g]? = some (.cells cs t (0, 0))
theorem Blk.lt {w : World} {g : Nat} {t : TypeId} {cs : Array Value} (h : Blk w g t cs) : g < w.heap.size := lt_of_block h
theorem Blk.cell {w : World} {g : Nat} {t : TypeId} {cs : Array Value} (h : Blk w g t cs) (i : Nat) : w.cell? ⟨g, i, none⟩ = cs[i]? := by
  unfold Blk at h
  simp [World.cell?, h]
theorem Blk.free {w : World} {g : Nat} {t : TypeId} {cs : Array Value} (h : Blk w g t cs) (i : Nat) : w.frozen? ⟨g, i, none⟩ = false := by
  unfold Blk at h
  simp [World.frozen?, h]
theorem Blk.new (w : World) (t : TypeId) (cs : Array Value) : Blk (w.alloc (.cells cs t)) w.heap.size t cs := heap_alloc_new w _
theorem Blk.alloc {w : World} {g : Nat} {t : TypeId} {cs : Array Value} (h : Blk w g t cs) (o : Obj) : Blk (w.alloc o) g t cs := (Below.heap_alloc w o g h.lt).trans h
theorem Blk.set {w : World} {g : Nat} {t : TypeId} {cs : Array Value} (h : Blk w g t cs) (i : Nat) (u : Value) : Blk (w.setCell ⟨g, i, none⟩ u) g t (cs.setIfInBounds i u) := by
  unfold Blk at h ⊢
  simp [World.setCell, Array.getElem?_modify, h]
theorem Blk.far {w : World} {g : Nat} {t : TypeId} {cs : Array Value} (h : Blk w g t cs) {p : Addr} (hp : g ≠ p.block) (u : Value) : Blk (w.setCell p u) g t cs := (Below.heap_setCell w p u g hp).trans h
theorem Blk.below {w w' : World} {g B : Nat} {t : TypeId} {cs : Array Value} (h : Blk w g t cs) (hb : Below B w w') (hg : g < B) : Blk w' g t cs := (hb.block g hg).trans h
theorem Blk.drewN {w : World} {g : Nat} {t : TypeId} {cs : Array Value} (h : Blk w g t cs) (n : Nat) : Blk (w.drewN n) g t cs := h
theorem Blk.ne {w : World} {g g' : Nat} {t t' : TypeId} {cs cs' : Array Value} (h : Blk w g t cs) (h' : Blk w g' t' cs') (hne : t ≠ t') : g ≠ g' := by
  rintro rfl
  unfold Blk at h h'
  rw [h] at h'
  injection h' with h'
  injection h' with _ ht
  exact hne ht

/-- A list of rows as cells. -/
def words (xs : List Nat) : Array Value := (xs.map fun x => Value.int .u64 (x : Nat)).toArray
theorem words_set (xs : List Nat) (i v : Nat) : (words xs).setIfInBounds i (.int .u64 (v : Nat)) = words (xs.set i v) := by
  apply Array.ext'
  simp [words]
theorem words_at (xs : List Nat) (i : Nat) (h : i < xs.length) : (words xs)[i]? = some (.int .u64 (R.row xs i : Nat)) := by
  simp [words, R.row, List.getD, h]

/-- A slice of rows that came in, or was made: its rows are xs. Of an empty one's address nothing is known. -/
def IsWords (w : World) (a : Option Addr) (len : Nat) (xs : List Nat) : Prop :=
  xs.length = len ∧ len ≤ 4611686018427387904 ∧ R.Words xs ∧ (len = 0 ∨ ∃ b off, a = some ⟨b, off, none⟩ ∧ ∀ i, i < len → w.cell? ⟨b, off + i, none⟩ = some (.int .u64 (R.row xs i : Nat)))
theorem IsWords.keep {w w' : World} {a : Option Addr} {len : Nat} {xs : List Nat} (h : IsWords w a len xs) (hk : ∀ p : Addr, p.block < w.heap.size → w'.cell? p = w.cell? p) : IsWords w' a len xs := by
  obtain ⟨hl, hm, hw, h | ⟨b, off, rfl, hc⟩⟩ := h
  · exact ⟨hl, hm, hw, .inl h⟩
  · refine ⟨hl, hm, hw, .inr ⟨b, off, rfl, fun i hi => ?_⟩⟩
    have h0 := hc i hi
    rw [hk ⟨b, off + i, none⟩ (World.block_lt_of_cell? w _ h0)]
    exact h0
theorem IsWords.below {w w' : World} {a : Option Addr} {len : Nat} {xs : List Nat} (h : IsWords w a len xs) (hb : Below w.heap.size w w') : IsWords w' a len xs :=
  h.keep fun _ hp => hb.cell hp
theorem IsWords.drewN {w : World} {a : Option Addr} {len : Nat} {xs : List Nat} (h : IsWords w a len xs) (n : Nat) : IsWords (w.drewN n) a len xs := h
theorem IsWords.nil (w : World) (a : Option Addr) : IsWords w a 0 [] := ⟨rfl, by decide, R.words_of (by simp), .inl rfl⟩
theorem IsWords.at {w : World} {a : Option Addr} {len : Nat} {xs : List Nat} (h : IsWords w a len xs) (h0 : 0 < len) : ∃ b off, a = some ⟨b, off, none⟩ ∧ ∀ i, i < len → w.cell? ⟨b, off + i, none⟩ = some (.int .u64 (R.row xs i : Nat)) := by
  obtain ⟨_, _, _, h | h⟩ := h
  · omega
  · exact h
theorem Blk.words {w : World} {g n : Nat} {xs : List Nat} (h : Blk w g 23 (words xs)) (hl : xs.length = n) (hm : n ≤ 4611686018427387904) (hw : R.Words xs) : IsWords w (some ⟨g, 0, none⟩) n xs :=
  ⟨hl, hm, hw, .inr ⟨g, 0, rfl, fun i hi => by rw [Nat.zero_add, h.cell, words_at xs i (by omega)]⟩⟩

/-- A call that answers v, and turns nothing that was there. -/
def Ans (v : Value) (w : World) (e : Ending) (w' : World) : Prop := e = .returned v ∧ Below w.heap.size w w'
/-- A call that answers a list of rows, and turns nothing that was there. -/
def Gives (xs : List Nat) (w : World) (e : Ending) (w' : World) : Prop := ∃ a cap, e = .returned (.slice a xs.length cap) ∧ IsWords w' a xs.length xs ∧ Below w.heap.size w w'

set_option maxHeartbeats 400000 in
theorem fits_any (n : Int) (w : World) :
    Calls Tryd.prog 69 #[.int .i64 n] w fun e w' => e = .returned (.bool (R.fitsB n)) ∧ w = w' := by
  by_cases h0 : 0 ≤ n
  · have H : Hid (decide (n ≤ 64) = R.fitsB n) := show decide (n ≤ 64) = R.fitsB n by simp [R.fitsB, h0]
    go_enter Tryd.func69, Tryd.ntmps69
    go_wp2
    go_ret
    exact ⟨ret_bool H.out, rfl⟩
  · have H : Hid (false = R.fitsB n) := show false = R.fitsB n by simp [R.fitsB, h0]
    go_enter Tryd.func69, Tryd.ntmps69
    go_wp2
    go_ret
    exact ⟨ret_bool H.out, rfl⟩
set_option maxHeartbeats 400000 in
theorem things_any (a : Option Addr) (len cap : Nat) (w : World) :
    Calls Tryd.prog 61 #[.slice a len cap] w fun e w' => e = .returned (.int .u64 (R.things len : Nat)) ∧ w = w' := by
  go_enter Tryd.func61, Tryd.ntmps61
  go_wp2_with (go_at_call 73; refine (range_any _ _ _).mono ?_; rintro e w' ⟨rfl, rfl⟩)
  go_ret
  exact ⟨rfl, rfl⟩

/-- Function F is one with a body of its own. -/
def Enters (F : Nat) : Prop := ∀ args w, (callFunc F args).run Tryd.prog w = .ok (.enter F args) w
theorem enters_of {F : Nat} {fn : Func} {c : Code} (hf : Tryd.prog.funcs[F]? = some fn) (hn : (fn.name == "runtime.NumGoroutine") = false) (hb : fn.body = some c) : Enters F := fun args w => by
  have h1 : fn.name ≠ "runtime.NumGoroutine" := by simpa using hn
  simp [callFunc, hf, h1, hb]
/-- What a round of each leaves. -/
def EachR (I : List Nat → World → Prop) (s : Nat) (t : Value) (w : World) : Prop :=
  ∃ (r : Nat) (l : List Nat), t = .int .u64 r ∧ r < 2 ^ 64 ∧ l ++ M.bl r = M.bl s ∧ I l w

set_option maxHeartbeats 400000 in
theorem reach_each (F : Nat) (hF : Enters F) (rv : Value) (I : List Nat → World → Prop) (a : Option Addr) (len cap s : Nat) (xs : List Nat) (w : World) (hs : s < 2 ^ 64) (hin : ∀ x ∈ M.bl s, x < len)
    (h0 : I [] w) (hI : ∀ l w, I l w → IsWords w a len xs ∧ Tb w)
    (hstep : ∀ l x w, (∃ r, l ++ x :: r = M.bl s) → I l w → Calls Tryd.prog F #[rv, .int .i64 (x : Nat), .int .u64 (R.row xs x : Nat)] w fun e w' => e = .returned (.tuple #[]) ∧ I (l ++ [x]) w') :
    Calls Tryd.prog 60 #[.slice a len cap, .int .u64 s, .func (.func F) #[rv] #[]] w fun e w' => e = .returned (.tuple #[]) ∧ I (M.bl s) w' := by
  have HI := Lib.hid hI
  have HF := Lib.hid hF
  clear hF
  have HS := Lib.hid hstep
  have HIN := Lib.hid hin
  clear hI hstep hin
  go_enter Tryd.func60, Tryd.ntmps60
  go_wp2
  go_loopw [1, 6] (fun t _ wr => EachR I s t wr) (fun t _ _ => (intOf t).toNat)
  case atStart => exact ⟨s, [], rfl, hs, rfl, h0⟩
  case round =>
    obtain ⟨r, l, rfl, hr, hx, hw⟩ := hrel
    have HX := Lib.hid hx
    clear hx
    by_cases hr0 : r = 0
    · subst hr0
      go_wp2
      go_end0
      have e : l = M.bl s := by
        have := HX.out
        rw [M.bl_zero, List.append_nil] at this
        exact this
      subst e
      exact ⟨rfl, hw⟩
    · have hb : ((r : Int) == 0) = false := by simp; omega
      have hb2 : ((r : Int) != 0) = true := by simp; omega
      obtain ⟨hW, hT⟩ := HI.out l _ hw
      have hmem : Lib.ctz 64 r < len := HIN.out _ (by rw [← HX.out, M.bl_cons r hr0 hr]; simp)
      obtain ⟨b, off, rfl, hc⟩ := hW.at (by omega)
      have hc0 := hc _ hmem
      clear hc hW
      have hk := (M.ctz_bits r hr0 hr).1
      have hf : M.firstI r = (Lib.ctz 64 r : Nat) := by simp [M.firstI, hr0]
      have hfirst := first_any r wr hr hT.1
      rw [hf] at hfirst
      have hd1 := M.dropN_lt r (Lib.ctz 64 r : Nat) hr
      have hd2 := M.dropN_less r hr0 hr
      have HC := Lib.hid (M.bl_cons r hr0 hr)
      have hstep := HS.out l (Lib.ctz 64 r) wr ⟨_, by rw [← HX.out, HC.out]⟩ hw
      have HST := Lib.hid hstep
      have HFI := Lib.hid hfirst
      clear hfirst hstep hf
      generalize Lib.ctz 64 r = x at *
      go_wp2_with fail
      refine HFI.out.mono ?_
      rintro e w' ⟨rfl, rfl⟩
      go_wp2_with fail
      rw [HF.out, Oper.upon_enter]
      refine HST.out.mono ?_
      rintro e w1 ⟨rfl, hw1⟩
      go_wp2_with fail
      refine (drop_any r _ _ hr).mono ?_
      rintro e w2 ⟨rfl, rfl⟩
      go_wp2
      go_roundw
      case rel => exact ⟨_, _, rfl, hd1, by rw [← HX.out, HC.out]; simp, hw1⟩
      case measure =>
        simp only [intOf]
        omega
end Go.Proofs.YtokehiehfgffmaaDoor
