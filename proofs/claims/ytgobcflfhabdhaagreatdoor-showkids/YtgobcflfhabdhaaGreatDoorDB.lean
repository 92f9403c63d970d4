/-
  What joins two sides, and what makes one of two, of the developers' cursor: contracts.
-/
import Derived.Test.YtgobcflfhabdhaaGreatDoorDTake
import Derived.Test.YtgobcflfhabdhaaGreatDoorPA
import Derived.Test.YtgobcflfhabdhaaGreatDoorPC
namespace Go.Proofs.YtgobcflfhabdhaaGreatDoor.Lx
open Go.RowKit
open L (Tok)
open P (EX CO ST)
set_option maxRecDepth 100000
set_option linter.unusedVariables false
set_option linter.unusedSimpArgs false
theorem Dc.far5 {w : World} {C g : Nat} {TS : List Tok} {pv : Value} {st : Sta} (h : Dc w C g TS pv st) {R : Nat} (hC : ¬ C = R) (hg : ¬ g = R) (u0 u1 u2 u3 u4 : Value) : Dc (((((w.setCell ⟨R, 0, none⟩ u0).setCell ⟨R, 1, none⟩ u1).setCell ⟨R, 2, none⟩ u2).setCell ⟨R, 3, none⟩ u3).setCell ⟨R, 4, none⟩ u4) C g TS pv st :=
  h.other (S := fun b => b = R) (Only.put5 (Only.refl (fun b => b = R) w) (.inl rfl) u0 u1 u2 u3 u4) hC hg
def onJ (jn : List Tok → Int) : Sta → Int
  | .ok ts => jn ts
  | .error _ => 0
def stp (jn : List Tok → Int) (st : Sta) : Sta := if onJ jn st = 0 then st else tl st
def slen : Sta → Nat
  | .ok ts => ts.length
  | .error _ => 0
/-- How many tokens are ahead, as memory says it. -/
def lnAt (C : Nat) (w : World) : Nat :=
  match w.cell? ⟨C, 0, none⟩ with
  | some (.slice _ n _) => n
  | _ => 0
theorem Dc.lnAt {w : World} {C g : Nat} {TS : List Tok} {pv : Value} {st : Sta} (h : Dc w C g TS pv st) : lnAt C w = slen st := by
  obtain ⟨a, n, c, hb, ha⟩ := h.blk
  have h0 := hb.cell 0
  unfold Lx.lnAt
  rw [h0]
  show n = slen st
  rcases st with q | ts
  · exact ha
  · obtain ⟨k, rfl, hk, rfl, _⟩ := ha
    show _ = (TS.drop k).length
    rw [List.length_drop]
theorem Dc.live {w : World} {C g : Nat} {TS : List Tok} {pv : Value} {ts : List Tok} (h : Dc w C g TS pv (.ok ts)) : 0 < ts.length := by
  obtain ⟨a, n, c, hb, k, rfl, hk, _⟩ := h.blk
  rw [List.length_drop]
  omega
def JoinD (C g : Nat) (TS : List Tok) (pv : Value) (jn : List Tok → Int) (st : Sta) (w : World) (e : Ending) (w' : World) : Prop := e = .returned (.int .i64 (onJ jn st)) ∧ Dc w' C g TS pv (stp jn st) ∧ Only (· = C) w w'
theorem onJ_two {s1 s2 : List UInt8} {o1 o2 : Int} (h1 : o1 ≠ 0) (h2 : o2 ≠ 0) (st : Sta) : onJ (fun ts => if P.isS s1 ts then o1 else if P.isS s2 ts then o2 else 0) st = (bif onIs s1 st then o1 else bif onIs s2 st then o2 else 0) := by
  rcases st with q | ts
  · rfl
  · show (if P.isS s1 ts = true then o1 else if P.isS s2 ts = true then o2 else 0) = (bif P.isS s1 ts then o1 else bif P.isS s2 ts then o2 else 0)
    cases P.isS s1 ts <;> cases P.isS s2 ts <;> rfl
theorem onJ_one (s : List UInt8) (o : Int) (st : Sta) : onJ (P.jWord s o) st = (bif onIs s st then o else 0) := by
  rcases st with q | ts
  · rfl
  · show (if P.isS s ts = true then o else 0) = (bif P.isS s ts then o else 0)
    cases P.isS s ts <;> rfl
set_option maxHeartbeats 800000 in
theorem sums_d (C g : Nat) (TS : List Tok) (pv : Value) (st : Sta) (w : World) (h : Dc w C g TS pv st) :
    Calls Tryz.prog 148 #[.pointer (some ⟨C, 0, none⟩)] w (JoinD C g TS pv P.jSum st w) := by
  have HJ := Lib.hid (show onJ P.jSum st = _ from onJ_two (s1 := [43]) (s2 := [45]) (o1 := 3) (o2 := 4) (by decide) (by decide) st)
  have HN := Lib.hid (show Calls Tryz.prog 82 #[.pointer (some ⟨C, 0, none⟩), .string ⟨#[43]⟩] w (PassD C g TS pv (onIs [43] st) st w) from pass_d C g TS pv st ⟨#[43]⟩ w h (by decide))
  clear h
  cases h1 : onIs [43] st with
  | true =>
    rw [h1] at HN HJ
    have HS := Lib.hid (show stp P.jSum st = tl st by unfold stp; rw [HJ.out]; rfl)
    clear h1
    go_enter Tryz.func148, Tryz.ntmps148
    go_wp2_with fail
    with_reducible refine HN.out.mono ?_
    rintro e w1 ⟨rfl, hd1, ho1⟩
    have HD1 : Hid (Dc w1 C g TS pv (tl st)) := Lib.hid hd1
    clear hd1
    go_wp2_with fail
    go_ret
    exact ⟨by rw [HJ.out]; rfl, HS.out ▸ HD1.out, ho1⟩
  | false =>
    rw [h1] at HN HJ
    have HP := Lib.hid (fun w h => (show Calls Tryz.prog 82 #[.pointer (some ⟨C, 0, none⟩), .string ⟨#[45]⟩] w (PassD C g TS pv (onIs [45] st) st w) from pass_d C g TS pv st ⟨#[45]⟩ w h (by decide)))
    clear h1
    cases h2 : onIs [45] st with
    | true =>
      rw [h2] at HP HJ
      have HS := Lib.hid (show stp P.jSum st = tl st by unfold stp; rw [HJ.out]; rfl)
      clear h2
      go_enter Tryz.func148, Tryz.ntmps148
      go_wp2_with fail
      with_reducible refine HN.out.mono ?_
      rintro e w1 ⟨rfl, hd1, ho1⟩
      have hcall := HP.out w1 hd1
      clear hd1
      go_wp2_with fail
      with_reducible refine hcall.mono ?_
      rintro e w2 ⟨rfl, hd2, ho2⟩
      have HD2 : Hid (Dc w2 C g TS pv (tl st)) := Lib.hid hd2
      clear hd2 hcall
      go_wp2_with fail
      go_ret
      exact ⟨by rw [HJ.out]; rfl, HS.out ▸ HD2.out, ho1.trans ho2⟩
    | false =>
      rw [h2] at HP HJ
      have HS := Lib.hid (show stp P.jSum st = st by unfold stp; rw [HJ.out]; rfl)
      clear h2
      go_enter Tryz.func148, Tryz.ntmps148
      go_wp2_with fail
      with_reducible refine HN.out.mono ?_
      rintro e w1 ⟨rfl, hd1, ho1⟩
      have hcall := HP.out w1 hd1
      clear hd1
      go_wp2_with fail
      with_reducible refine hcall.mono ?_
      rintro e w2 ⟨rfl, hd2, ho2⟩
      have HD2 : Hid (Dc w2 C g TS pv st) := Lib.hid hd2
      clear hd2 hcall
      go_wp2_with fail
      go_ret
      exact ⟨by rw [HJ.out]; rfl, by rw [HS.out]; exact HD2.out, ho1.trans ho2⟩
set_option maxHeartbeats 800000 in
theorem compares_d (C g : Nat) (TS : List Tok) (pv : Value) (st : Sta) (w : World) (h : Dc w C g TS pv st) :
    Calls Tryz.prog 140 #[.pointer (some ⟨C, 0, none⟩)] w (JoinD C g TS pv P.jCmp st w) := by
  have HJ := Lib.hid (show onJ P.jCmp st = _ from onJ_two (s1 := [61, 61]) (s2 := [60]) (o1 := 5) (o2 := 6) (by decide) (by decide) st)
  have HN := Lib.hid (show Calls Tryz.prog 82 #[.pointer (some ⟨C, 0, none⟩), .string ⟨#[61, 61]⟩] w (PassD C g TS pv (onIs [61, 61] st) st w) from pass_d C g TS pv st ⟨#[61, 61]⟩ w h (by decide))
  clear h
  cases h1 : onIs [61, 61] st with
  | true =>
    rw [h1] at HN HJ
    have HS := Lib.hid (show stp P.jCmp st = tl st by unfold stp; rw [HJ.out]; rfl)
    clear h1
    go_enter Tryz.func140, Tryz.ntmps140
    go_wp2_with fail
    with_reducible refine HN.out.mono ?_
    rintro e w1 ⟨rfl, hd1, ho1⟩
    have HD1 : Hid (Dc w1 C g TS pv (tl st)) := Lib.hid hd1
    clear hd1
    go_wp2_with fail
    go_ret
    exact ⟨by rw [HJ.out]; rfl, HS.out ▸ HD1.out, ho1⟩
  | false =>
    rw [h1] at HN HJ
    have HP := Lib.hid (fun w h => (show Calls Tryz.prog 82 #[.pointer (some ⟨C, 0, none⟩), .string ⟨#[60]⟩] w (PassD C g TS pv (onIs [60] st) st w) from pass_d C g TS pv st ⟨#[60]⟩ w h (by decide)))
    clear h1
    cases h2 : onIs [60] st with
    | true =>
      rw [h2] at HP HJ
      have HS := Lib.hid (show stp P.jCmp st = tl st by unfold stp; rw [HJ.out]; rfl)
      clear h2
      go_enter Tryz.func140, Tryz.ntmps140
      go_wp2_with fail
      with_reducible refine HN.out.mono ?_
      rintro e w1 ⟨rfl, hd1, ho1⟩
      have hcall := HP.out w1 hd1
      clear hd1
      go_wp2_with fail
      with_reducible refine hcall.mono ?_
      rintro e w2 ⟨rfl, hd2, ho2⟩
      have HD2 : Hid (Dc w2 C g TS pv (tl st)) := Lib.hid hd2
      clear hd2 hcall
      go_wp2_with fail
      go_ret
      exact ⟨by rw [HJ.out]; rfl, HS.out ▸ HD2.out, ho1.trans ho2⟩
    | false =>
      rw [h2] at HP HJ
      have HS := Lib.hid (show stp P.jCmp st = st by unfold stp; rw [HJ.out]; rfl)
      clear h2
      go_enter Tryz.func140, Tryz.ntmps140
      go_wp2_with fail
      with_reducible refine HN.out.mono ?_
      rintro e w1 ⟨rfl, hd1, ho1⟩
      have hcall := HP.out w1 hd1
      clear hd1
      go_wp2_with fail
      with_reducible refine hcall.mono ?_
      rintro e w2 ⟨rfl, hd2, ho2⟩
      have HD2 : Hid (Dc w2 C g TS pv st) := Lib.hid hd2
      clear hd2 hcall
      go_wp2_with fail
      go_ret
      exact ⟨by rw [HJ.out]; rfl, by rw [HS.out]; exact HD2.out, ho1.trans ho2⟩
set_option maxHeartbeats 800000 in
theorem ors_d (C g : Nat) (TS : List Tok) (pv : Value) (st : Sta) (w : World) (h : Dc w C g TS pv st) :
    Calls Tryz.prog 88 #[.pointer (some ⟨C, 0, none⟩)] w (JoinD C g TS pv (P.jWord [111, 114] 5) st w) := by
  have HJ := Lib.hid (onJ_one [111, 114] 5 st)
  have HN := Lib.hid (show Calls Tryz.prog 82 #[.pointer (some ⟨C, 0, none⟩), .string ⟨#[111, 114]⟩] w (PassD C g TS pv (onIs [111, 114] st) st w) from pass_d C g TS pv st ⟨#[111, 114]⟩ w h (by decide))
  clear h
  cases h1 : onIs [111, 114] st with
  | true =>
    rw [h1] at HN HJ
    have HS := Lib.hid (show stp (P.jWord [111, 114] 5) st = tl st by unfold stp; rw [HJ.out]; rfl)
    clear h1
    go_enter Tryz.func88, Tryz.ntmps88
    go_wp2_with fail
    with_reducible refine HN.out.mono ?_
    rintro e w1 ⟨rfl, hd1, ho1⟩
    have HD1 : Hid (Dc w1 C g TS pv (tl st)) := Lib.hid hd1
    clear hd1
    go_wp2_with fail
    go_ret
    exact ⟨by rw [HJ.out]; rfl, HS.out ▸ HD1.out, ho1⟩
  | false =>
    rw [h1] at HN HJ
    have HS := Lib.hid (show stp (P.jWord [111, 114] 5) st = st by unfold stp; rw [HJ.out]; rfl)
    clear h1
    go_enter Tryz.func88, Tryz.ntmps88
    go_wp2_with fail
    with_reducible refine HN.out.mono ?_
    rintro e w1 ⟨rfl, hd1, ho1⟩
    have HD1 : Hid (Dc w1 C g TS pv st) := Lib.hid hd1
    clear hd1
    go_wp2_with fail
    go_ret
    exact ⟨by rw [HJ.out]; rfl, by rw [HS.out]; exact HD1.out, ho1⟩
set_option maxHeartbeats 800000 in
theorem ands_d (C g : Nat) (TS : List Tok) (pv : Value) (st : Sta) (w : World) (h : Dc w C g TS pv st) :
    Calls Tryz.prog 108 #[.pointer (some ⟨C, 0, none⟩)] w (JoinD C g TS pv (P.jWord [97, 110, 100] 4) st w) := by
  have HJ := Lib.hid (onJ_one [97, 110, 100] 4 st)
  have HN := Lib.hid (show Calls Tryz.prog 82 #[.pointer (some ⟨C, 0, none⟩), .string ⟨#[97, 110, 100]⟩] w (PassD C g TS pv (onIs [97, 110, 100] st) st w) from pass_d C g TS pv st ⟨#[97, 110, 100]⟩ w h (by decide))
  clear h
  cases h1 : onIs [97, 110, 100] st with
  | true =>
    rw [h1] at HN HJ
    have HS := Lib.hid (show stp (P.jWord [97, 110, 100] 4) st = tl st by unfold stp; rw [HJ.out]; rfl)
    clear h1
    go_enter Tryz.func108, Tryz.ntmps108
    go_wp2_with fail
    with_reducible refine HN.out.mono ?_
    rintro e w1 ⟨rfl, hd1, ho1⟩
    have HD1 : Hid (Dc w1 C g TS pv (tl st)) := Lib.hid hd1
    clear hd1
    go_wp2_with fail
    go_ret
    exact ⟨by rw [HJ.out]; rfl, HS.out ▸ HD1.out, ho1⟩
  | false =>
    rw [h1] at HN HJ
    have HS := Lib.hid (show stp (P.jWord [97, 110, 100] 4) st = st by unfold stp; rw [HJ.out]; rfl)
    clear h1
    go_enter Tryz.func108, Tryz.ntmps108
    go_wp2_with fail
    with_reducible refine HN.out.mono ?_
    rintro e w1 ⟨rfl, hd1, ho1⟩
    have HD1 : Hid (Dc w1 C g TS pv st) := Lib.hid hd1
    clear hd1
    go_wp2_with fail
    go_ret
    exact ⟨by rw [HJ.out]; rfl, by rw [HS.out]; exact HD1.out, ho1⟩
theorem sz_alloc (w : World) (o : Obj) : (w.alloc o).heap.size = w.heap.size + 1 := by simp
theorem Blk.new' (w : World) (t : TypeId) (cs : Array Value) {g : Nat} (h : w.heap.size = g) : Blk (w.alloc (.cells cs t)) g t cs := by
  subst h
  exact Blk.new w t cs
theorem below_alloc {B : Nat} {a b : World} (h : Below B a b) (hB : B ≤ a.heap.size) (o : Obj) : Below B a (b.alloc o) := h.alloc (Nat.le_trans hB h.size) o
/-- Two expressions made one. -/
def PairX (op o m o7 m7 : Int) (s s7 : ByteArray) (a a7 : Option Addr) (n c n7 c7 : Nat) (w : World) (e : Ending) (w' : World) : Prop :=
  ∃ K, e = .returned (.agg #[.int .i64 op, .int .i64 0, .string ⟨#[]⟩, .slice (some ⟨K, 0, none⟩) 2 2]) ∧ w.heap.size ≤ K ∧ Blk w' K 46 #[.int .i64 o, .int .i64 m, .string s, .slice a n c, .int .i64 o7, .int .i64 m7, .string s7, .slice a7 n7 c7] ∧ Below w.heap.size w w'
set_option maxHeartbeats 800000 in
theorem exprPair_d (op o m o7 m7 : Int) (s s7 : ByteArray) (a a7 : Option Addr) (n c n7 c7 : Nat) (w : World) :
    Calls Tryz.prog 141 #[.int .i64 op, .agg #[.int .i64 o, .int .i64 m, .string s, .slice a n c], .agg #[.int .i64 o7, .int .i64 m7, .string s7, .slice a7 n7 c7]] w (PairX op o m o7 m7 s s7 a a7 n c n7 c7 w) := by
  go_enter Tryz.func141, Tryz.ntmps141
  go_wp2_with fail
  have hb1 : Below w.heap.size w (w.alloc (.cells #[.int .i64 o, .int .i64 m, .string s, .slice a n c] 46)) := (Below.refl _ _).alloc (Nat.le_refl _) _
  have hs1 := sz_alloc w (.cells #[.int .i64 o, .int .i64 m, .string s, .slice a n c] 46)
  generalize w.alloc (.cells #[.int .i64 o, .int .i64 m, .string s, .slice a n c] 46) = w1 at *
  have hb2 := below_alloc hb1 (Nat.le_refl _) (.cells #[.int .i64 o7, .int .i64 m7, .string s7, .slice a7 n7 c7] 46)
  have hs2 := sz_alloc w1 (.cells #[.int .i64 o7, .int .i64 m7, .string s7, .slice a7 n7 c7] 46)
  generalize w1.alloc (.cells #[.int .i64 o7, .int .i64 m7, .string s7, .slice a7 n7 c7] 46) = w2 at *
  have hb3 := below_alloc hb2 (Nat.le_refl _) (.cells #[.int .i64 op, .int .i64 0, .string ⟨#[]⟩, .slice (some ⟨w.heap.size + 1 + 1 + 1, 0, none⟩) 2 2] 46)
  have hs3 := sz_alloc w2 (.cells #[.int .i64 op, .int .i64 0, .string ⟨#[]⟩, .slice (some ⟨w.heap.size + 1 + 1 + 1, 0, none⟩) 2 2] 46)
  have hR := Blk.new' w2 46 #[.int .i64 op, .int .i64 0, .string ⟨#[]⟩, .slice (some ⟨w.heap.size + 1 + 1 + 1, 0, none⟩) 2 2] (g := w.heap.size + 1 + 1) (by omega)
  generalize w2.alloc (.cells #[.int .i64 op, .int .i64 0, .string ⟨#[]⟩, .slice (some ⟨w.heap.size + 1 + 1 + 1, 0, none⟩) 2 2] 46) = w3 at *
  have hK := Blk.new' w3 46 #[.int .i64 o, .int .i64 m, .string s, .slice a n c, .int .i64 o7, .int .i64 m7, .string s7, .slice a7 n7 c7] (g := w.heap.size + 1 + 1 + 1) (by omega)
  refine bodyPost_ret (results_cell_row (p := 6) rfl _ _ (w.heap.size + 1 + 1) 46 #[.int .i64 op, .int .i64 0, .string ⟨#[]⟩, .slice (some ⟨w.heap.size + 1 + 1 + 1, 0, none⟩) 2 2] (0, 0) _ rfl (hR.alloc _) Tryz.underlying46 rfl (by kernel_rfl)) rfl ?_
  exact ⟨_, rfl, by omega, hK, below_alloc hb3 (Nat.le_refl _) _⟩
/-- Two conditions made one. -/
def PairC (op o m u o7 m7 u7 : Int) (s s7 : ByteArray) (a a7 : Option Addr) (n c n7 c7 : Nat) (w : World) (e : Ending) (w' : World) : Prop :=
  ∃ K, e = .returned (.agg #[.int .i64 op, .int .i64 0, .string ⟨#[]⟩, .int .i64 0, .slice (some ⟨K, 0, none⟩) 2 2]) ∧ w.heap.size ≤ K ∧ Blk w' K 28 #[.int .i64 o, .int .i64 m, .string s, .int .i64 u, .slice a n c, .int .i64 o7, .int .i64 m7, .string s7, .int .i64 u7, .slice a7 n7 c7] ∧ Below w.heap.size w w'
set_option maxHeartbeats 800000 in
theorem condPair_d (op o m u o7 m7 u7 : Int) (s s7 : ByteArray) (a a7 : Option Addr) (n c n7 c7 : Nat) (w : World) :
    Calls Tryz.prog 90 #[.int .i64 op, .agg #[.int .i64 o, .int .i64 m, .string s, .int .i64 u, .slice a n c], .agg #[.int .i64 o7, .int .i64 m7, .string s7, .int .i64 u7, .slice a7 n7 c7]] w (PairC op o m u o7 m7 u7 s s7 a a7 n c n7 c7 w) := by
  go_enter Tryz.func90, Tryz.ntmps90
  go_wp2_with fail
  have hb1 : Below w.heap.size w (w.alloc (.cells #[.int .i64 o, .int .i64 m, .string s, .int .i64 u, .slice a n c] 28)) := (Below.refl _ _).alloc (Nat.le_refl _) _
  have hs1 := sz_alloc w (.cells #[.int .i64 o, .int .i64 m, .string s, .int .i64 u, .slice a n c] 28)
  generalize w.alloc (.cells #[.int .i64 o, .int .i64 m, .string s, .int .i64 u, .slice a n c] 28) = w1 at *
  have hb2 := below_alloc hb1 (Nat.le_refl _) (.cells #[.int .i64 o7, .int .i64 m7, .string s7, .int .i64 u7, .slice a7 n7 c7] 28)
  have hs2 := sz_alloc w1 (.cells #[.int .i64 o7, .int .i64 m7, .string s7, .int .i64 u7, .slice a7 n7 c7] 28)
  generalize w1.alloc (.cells #[.int .i64 o7, .int .i64 m7, .string s7, .int .i64 u7, .slice a7 n7 c7] 28) = w2 at *
  have hb3 := below_alloc hb2 (Nat.le_refl _) (.cells #[.int .i64 op, .int .i64 0, .string ⟨#[]⟩, .int .i64 0, .slice (some ⟨w.heap.size + 1 + 1 + 1, 0, none⟩) 2 2] 28)
  have hs3 := sz_alloc w2 (.cells #[.int .i64 op, .int .i64 0, .string ⟨#[]⟩, .int .i64 0, .slice (some ⟨w.heap.size + 1 + 1 + 1, 0, none⟩) 2 2] 28)
  have hR := Blk.new' w2 28 #[.int .i64 op, .int .i64 0, .string ⟨#[]⟩, .int .i64 0, .slice (some ⟨w.heap.size + 1 + 1 + 1, 0, none⟩) 2 2] (g := w.heap.size + 1 + 1) (by omega)
  generalize w2.alloc (.cells #[.int .i64 op, .int .i64 0, .string ⟨#[]⟩, .int .i64 0, .slice (some ⟨w.heap.size + 1 + 1 + 1, 0, none⟩) 2 2] 28) = w3 at *
  have hK := Blk.new' w3 28 #[.int .i64 o, .int .i64 m, .string s, .int .i64 u, .slice a n c, .int .i64 o7, .int .i64 m7, .string s7, .int .i64 u7, .slice a7 n7 c7] (g := w.heap.size + 1 + 1 + 1) (by omega)
  refine bodyPost_ret (results_cell_row (p := 6) rfl _ _ (w.heap.size + 1 + 1) 28 #[.int .i64 op, .int .i64 0, .string ⟨#[]⟩, .int .i64 0, .slice (some ⟨w.heap.size + 1 + 1 + 1, 0, none⟩) 2 2] (0, 0) _ rfl (hR.alloc _) Tryz.underlying28 rfl (by kernel_rfl)) rfl ?_
  exact ⟨_, rfl, by omega, hK, below_alloc hb3 (Nat.le_refl _) _⟩
end Go.Proofs.YtgobcflfhabdhaaGreatDoor.Lx
/-
  What grouped tells of the developers' cursor: expressions, joined by sums, with atom on both sides.
-/
namespace Go.Proofs.YtgobcflfhabdhaaGreatDoor.Lx
open Go.RowKit
open L (Tok)
open P (EX CO ST)
set_option maxRecDepth 100000
set_option linter.unusedVariables false
set_option linter.unusedSimpArgs false
def GrX (C g : Nat) (TS : List Tok) (pv : Value) (st : Sta) (jn : List Tok → Int) (side : List Tok → P.Res EX) (E R : Nat) (w0 : World) (t : Value) (wr : World) : Prop :=
  ∃ (o m : Int) (s : ByteArray) (a : Option Addr) (n c : Nat) (r : P.Res EX), t = .int .i64 (onJ jn (left r)) ∧ Blk wr E 46 #[.int .i64 o, .int .i64 m, .string s, .slice a n c] ∧ Blk wr R 46 zx ∧ Dc wr C g TS pv (stp jn (left r)) ∧ Only (· = C) w0 wr ∧ slen (left r) ≤ slen st ∧
    match r with
    | .ok (x, ts) => LX (Sm R E) wr (.agg #[.int .i64 o, .int .i64 m, .string s, .slice a n c]) x ∧ ∃ f, ts.length ≤ f ∧ on st (P.groupF jn side P.prX) = P.groupL jn side P.prX f x ts
    | .error q => on st (P.groupF jn side P.prX) = .error q
/-- A round: what the pair is made of, then stored. -/
theorem grX_round {C g K E : Nat} {TS : List Tok} {pv : Value} {st : Sta} {jn : List Tok → Int} {side : List Tok → P.Res EX} {w w6 w7 w8 w10 : World} {x : EX} {o m : Int} {s : ByteArray} {a : Option Addr} {n c : Nat} {o7 m7 : Int} {s7 : ByteArray} {a7 : Option Addr} {n7 c7 : Nat} {ts : List Tok} {f : Nat} {op oj : Int}
    (hop : op = jn ts) (hj : ¬ jn ts = 0) (hls : ts.length ≤ slen st) (hL : P.Less side) (hCl : C < w.heap.size) (hgl : g < w.heap.size) (hE : w.heap.size < E)
    (hf : ts.length ≤ f) (hS : on st (P.groupF jn side P.prX) = P.groupL jn side P.prX f x ts) (hO6 : Only (· = C) w w6) (hE6 : Blk w6 E 46 #[.int .i64 o, .int .i64 m, .string s, .slice a n c]) (hR6 : Blk w6 w.heap.size 46 zx) (hX6 : LX (Sm w.heap.size E) w6 (.agg #[.int .i64 o, .int .i64 m, .string s, .slice a n c]) x)
    (hd7 : Dc w7 C g TS pv (left (side ts.tail))) (ho7 : Only (· = C) w6 w7) (hx7 : ∀ y r, side ts.tail = .ok (y, r) → LX (From w6.heap.size) w7 (.agg #[.int .i64 o7, .int .i64 m7, .string s7, .slice a7 n7 c7]) y)
    (hK : w7.heap.size ≤ K) (hB8 : Blk w8 K 46 #[.int .i64 o, .int .i64 m, .string s, .slice a n c, .int .i64 o7, .int .i64 m7, .string s7, .slice a7 n7 c7]) (hb8 : Below w7.heap.size w7 w8)
    (h10 : JoinD C g TS pv jn (left (side ts.tail)) ((((w8.setCell ⟨E, 0, none⟩ (.int .i64 op)).setCell ⟨E, 1, none⟩ (.int .i64 0)).setCell ⟨E, 2, none⟩ (.string ⟨#[]⟩)).setCell ⟨E, 3, none⟩ (.slice (some ⟨K, 0, none⟩) 2 2)) (.returned (.int .i64 oj)) w10) (hj0 : jn [] = 0) (hlv : 0 < ts.tail.length) :
    GrX C g TS pv st jn side E w.heap.size w (.int .i64 oj) w10 ∧ slen (stp jn (left (side ts.tail))) < slen (.ok ts.tail) ∧ Dc w10 C g TS pv (stp jn (left (side ts.tail))) := by
  have hEl := hE6.lt
  have hs7 := ho7.size
  have hs8 := hb8.size
  have hE7 := hE6.only ho7 (by omega)
  have hR7 := hR6.only ho7 (by omega)
  have hX7 := hX6.keep (Keeps.only ho7 (by intro q hq e; have := hq.1; omega))
  have hE8 := hE7.live' hb8
  have hR8 := hR7.live' hb8
  have hD8 := hd7.below hb8
  have hX8 := hX7.keep (Keeps.below hb8 (Nat.le_refl _))
  have hY8 : ∀ y r, side ts.tail = .ok (y, r) → LX (From w6.heap.size) w8 (.agg #[.int .i64 o7, .int .i64 m7, .string s7, .slice a7 n7 c7]) y := fun y r hy => (hx7 y r hy).keep (Keeps.below hb8 (Nat.le_refl _))
  have hp : Only (fun b => b = E) w8 ((((w8.setCell ⟨E, 0, none⟩ (.int .i64 op)).setCell ⟨E, 1, none⟩ (.int .i64 0)).setCell ⟨E, 2, none⟩ (.string ⟨#[]⟩)).setCell ⟨E, 3, none⟩ (.slice (some ⟨K, 0, none⟩) 2 2)) := Only.put4 (Only.refl (fun b => b = E) w8) (.inl rfl) _ _ _ _
  have hO9 : Only (· = C) w ((((w8.setCell ⟨E, 0, none⟩ (.int .i64 op)).setCell ⟨E, 1, none⟩ (.int .i64 0)).setCell ⟨E, 2, none⟩ (.string ⟨#[]⟩)).setCell ⟨E, 3, none⟩ (.slice (some ⟨K, 0, none⟩) 2 2)) := Only.put4 ((hO6.trans ho7).trans (Only.of_below hb8)) (R := E) (.inr (by omega)) _ _ _ _
  have hbP : Blk ((((w8.setCell ⟨E, 0, none⟩ (.int .i64 op)).setCell ⟨E, 1, none⟩ (.int .i64 0)).setCell ⟨E, 2, none⟩ (.string ⟨#[]⟩)).setCell ⟨E, 3, none⟩ (.slice (some ⟨K, 0, none⟩) 2 2)) E 46 #[.int .i64 op, .int .i64 0, .string ⟨#[]⟩, .slice (some ⟨K, 0, none⟩) 2 2] := put4 hE8
  have hD9 := hD8.other hp (show ¬ C = E by omega) (show ¬ g = E by omega)
  have hR9 := hR8.only hp (show ¬ w.heap.size = E by omega)
  have hB9 := hB8.only hp (show ¬ K = E by omega)
  have hX9 := hX8.keep (Keeps.only hp (by intro q hq e; exact hq.2 e))
  have hY9 : ∀ y r, side ts.tail = .ok (y, r) → LX (From w6.heap.size) ((((w8.setCell ⟨E, 0, none⟩ (.int .i64 op)).setCell ⟨E, 1, none⟩ (.int .i64 0)).setCell ⟨E, 2, none⟩ (.string ⟨#[]⟩)).setCell ⟨E, 3, none⟩ (.slice (some ⟨K, 0, none⟩) 2 2)) (.agg #[.int .i64 o7, .int .i64 m7, .string s7, .slice a7 n7 c7]) y := fun y r hy => (hY8 y r hy).keep (Keeps.only hp (by intro q hq e; unfold From at hq; omega))
  generalize ((((w8.setCell ⟨E, 0, none⟩ (.int .i64 op)).setCell ⟨E, 1, none⟩ (.int .i64 0)).setCell ⟨E, 2, none⟩ (.string ⟨#[]⟩)).setCell ⟨E, 3, none⟩ (.slice (some ⟨K, 0, none⟩) 2 2)) = w9 at *
  obtain ⟨he, hd10, ho10⟩ := h10
  injection he with he
  injection he with _ he
  have hs9 := hO9.size
  obtain ⟨f', rfl⟩ : ∃ f', f = f' + 1 := by
    refine ⟨f - 1, ?_⟩
    cases ts with
    | nil => exact absurd hj0 hj
    | cons t r =>
      simp only [List.length_cons] at hf
      omega
  have hmo := P.groupL_more side P.prX f' x hj
  have hE10 := hbP.only ho10 (show ¬ E = C by omega)
  have hR10 := hR9.only ho10 (show ¬ w.heap.size = C by omega)
  have hB10 := hB9.only ho10 (show ¬ K = C by omega)
  have hX10 := hX9.keep (Keeps.only ho10 (by intro q hq e; have := hq.1; omega))
  have hO10 := hO9.trans ho10
  have htl : ts.tail.length + 1 = ts.length := by
    cases ts with
    | nil => exact absurd hj0 hj
    | cons t r => rfl
  cases hsd : side ts.tail with
  | error p =>
    rw [hsd] at hd10 hmo he
    refine ⟨⟨op, 0, ⟨#[]⟩, some ⟨K, 0, none⟩, 2, 2, .error p, by rw [he], hE10, hR10, hd10, hO10, Nat.zero_le _, ?_⟩, ?_, hd10⟩
    · show on st (P.groupF jn side P.prX) = .error p
      rw [hS, hmo]
    · exact hlv
  | ok y =>
    obtain ⟨y, r⟩ := y
    have hy := hY9 y r hsd
    have hl := hL _ _ _ hsd
    rw [hsd] at hd10 hmo he
    have hy10 := LX.mono (Q := From w6.heap.size) (Q' := Sm w.heap.size E) (by
      intro q hq _
      unfold From at hq
      exact ⟨by omega, by omega⟩) _ (hy.keep (Keeps.only ho10 (by intro q hq e; unfold From at hq; omega)))
    refine ⟨⟨op, 0, ⟨#[]⟩, some ⟨K, 0, none⟩, 2, 2, .ok (P.prX op x y, r), by rw [he]; rfl, hE10, hR10, hd10, hO10, ?_, ?_, f', by omega, ?_⟩, ?_, hd10⟩
    · show r.length ≤ slen st
      omega
    · exact lx_two (s := []) ⟨by omega, by omega⟩ hB10 hX10 hy10
    · rw [hS, hmo, hop]
    · show slen (stp jn (.ok r)) < ts.tail.length
      have : slen (stp jn (.ok r)) ≤ r.length := by
        unfold stp
        split
        · exact Nat.le_refl _
        · show r.tail.length ≤ r.length
          rw [List.length_tail]
          omega
      omega
set_option maxHeartbeats 3200000 in
theorem groupX_d (C g : Nat) (TS : List Tok) (pv : Value) (st : Sta) (jn : List Tok → Int) (side : List Tok → P.Res EX) (w : World) (h : Dc w C g TS pv st)
    (hJ : ∀ st w, Dc w C g TS pv st → Calls Tryz.prog 148 #[.pointer (some ⟨C, 0, none⟩)] w (JoinD C g TS pv jn st w))
    (hSd : ∀ st' w, Dc w C g TS pv st' → slen st' ≤ slen st → Calls Tryz.prog 149 #[.pointer (some ⟨C, 0, none⟩)] w (TotD (LX (From w.heap.size)) AnyX C g TS pv (on st' side) w))
    (hL : P.Less side) (hj0 : jn [] = 0) :
    Calls Tryz.prog 147 #[mval 148 C, mval 149 C, .func (.func 141) #[] #[]] w (TotD (LX (From w.heap.size)) AnyX C g TS pv (on st (P.groupF jn side P.prX)) w) := by
  obtain ⟨hCl, hgl⟩ := h.lts
  have HD := Lib.hid h
  have HJ := Lib.hid hJ
  have HS := Lib.hid hSd
  have HL := Lib.hid hL
  have H0 := Lib.hid hj0
  clear h hJ hSd hL hj0
  unfold mval
  go_enter Tryz.func147, Tryz.ntmps147
  go_wp2_with fail
  have HD0 := Lib.hid (HD.out.below (w' := w.alloc (.cells zx 46)) ((Below.refl _ _).alloc (Nat.le_refl _) _))
  have HO0 := Lib.hid ((Only.refl (· = C) w).alloc (.cells zx 46))
  have HB0 := Lib.hid (Blk.new w 46 zx)
  have hsA : w.heap.size < (w.alloc (.cells zx 46)).heap.size := HB0.out.lt
  generalize w.alloc (.cells zx 46) = w0 at *
  have hcall := HS.out st _ HD0.out (Nat.le_refl _)
  with_reducible refine hcall.mono ?_
  rintro e w1 ⟨v, rfl, ⟨o, m, s, a, n, c, rfl⟩, hd1, ho1, hx1⟩
  have HB1 := Lib.hid (HB0.out.only ho1 (by omega))
  have HO1 := Lib.hid (HO0.out.trans ho1)
  have hs1 := ho1.size
  have HD1 := Lib.hid hd1
  have HX1 := Lib.hid hx1
  clear hd1 ho1 hx1 hcall
  go_wp2_with fail
  have HD2 := Lib.hid (HD1.out.below (w' := w1.alloc (.cells #[.int .i64 o, .int .i64 m, .string s, .slice a n c] 46)) ((Below.refl _ _).alloc (Nat.le_refl _) _))
  have HO2 := Lib.hid (HO1.out.alloc (.cells #[.int .i64 o, .int .i64 m, .string s, .slice a n c] 46))
  have HB2 := Lib.hid (HB1.out.alloc (.cells #[.int .i64 o, .int .i64 m, .string s, .slice a n c] 46))
  have HE2 := Lib.hid (Blk.new w1 46 #[.int .i64 o, .int .i64 m, .string s, .slice a n c])
  have HK2 := Lib.hid (show Keeps (fun _ => True) w1 (w1.alloc (.cells #[.int .i64 o, .int .i64 m, .string s, .slice a n c] 46)) from Keeps.below ((Below.refl _ _).alloc (Nat.le_refl _) _) (Nat.le_refl _))
  have hE : w.heap.size < w1.heap.size := by omega
  generalize w1.alloc (.cells #[.int .i64 o, .int .i64 m, .string s, .slice a n c] 46) = w2 at *
  have HX2 := Lib.hid (fun x ts hh => LX.keep (w := w1) (w' := w2) (fun q hq hl => HK2.out q trivial hl) _ (LX.mono (Q := From w0.heap.size) (Q' := Sm w.heap.size w1.heap.size) (by intro q hq hl; unfold From at hq; exact ⟨by omega, by omega⟩) _ (HX1.out x ts hh)))
  clear HX1 HK2
  generalize w1.heap.size = E at *
  have hcall := HJ.out _ _ HD2.out
  with_reducible refine hcall.mono ?_
  rintro e w3 ⟨rfl, hd3, ho3⟩
  have HG : Hid (GrX C g TS pv st jn side E w.heap.size w (.int .i64 (onJ jn (left (on st side)))) w3) := by
    refine Lib.hid ⟨o, m, s, a, n, c, on st side, rfl, HE2.out.only ho3 (by omega), HB2.out.only ho3 (by omega), hd3, HO2.out.trans ho3, ?_, ?_⟩
    · rcases st with q | tt
      · exact Nat.zero_le _
      · show slen (left (side tt)) ≤ tt.length
        cases hh : side tt with
        | error p => exact Nat.zero_le _
        | ok y =>
          have := HL.out _ _ _ hh
          show y.2.length ≤ _
          omega
    · rcases st with q | tt
      · rfl
      · show (match side tt with
          | .ok (x, ts) => LX (Sm w.heap.size E) w3 (.agg #[.int .i64 o, .int .i64 m, .string s, .slice a n c]) x ∧ ∃ f, ts.length ≤ f ∧ P.groupF jn side P.prX tt = P.groupL jn side P.prX f x ts
          | .error q => P.groupF jn side P.prX tt = .error q)
        cases hh : side tt with
        | error p =>
          show P.groupF jn side P.prX tt = .error p
          unfold P.groupF
          rw [hh]
        | ok y =>
          obtain ⟨y, r⟩ := y
          refine ⟨(HX2.out y r hh).keep (Keeps.only ho3 (by intro q hq e; have := hq.1; omega)), r.length, Nat.le_refl _, ?_⟩
          conv => lhs; unfold P.groupF
          rw [hh]
  clear hcall hd3 ho3 HX2 HD2 HO2 HB2 HE2 HD1 HO1 HB1 HD0 HO0 HB0 hs1
  generalize onJ jn (left (on st side)) = oj0 at *
  go_wp2_with fail
  go_loopw [8] (fun t wr => GrX C g TS pv st jn side E w.heap.size w t wr) (fun _ wr => lnAt C wr)
  case atStart => exact HG.out
  case round =>
    obtain ⟨o, m, s, a, n, c, r, rfl, hE2, hR2, hd2, ho2, hsl, hcase⟩ := hrel
    have HM0 := Lib.hid hd2.lnAt
    by_cases hz : onJ jn (left r) = 0
    · have hst : stp jn (left r) = left r := by
        unfold stp
        rw [if_pos hz]
      rw [hst] at hd2
      rw [hz]
      have HF := Lib.hid (show left (on st (P.groupF jn side P.prX)) = left r ∧ ∀ x ts, on st (P.groupF jn side P.prX) = .ok (x, ts) → LX (Sm w.heap.size E) wr (.agg #[.int .i64 o, .int .i64 m, .string s, .slice a n c]) x by
        rcases r with q | ⟨x, ts⟩
        · have hc : on st (P.groupF jn side P.prX) = .error q := hcase
          rw [hc]
          exact ⟨rfl, fun _ _ hh => by cases hh⟩
        · obtain ⟨hx, f, hf, hq⟩ := hcase
          rw [P.groupL_stop side P.prX f x (show jn ts = 0 from hz)] at hq
          rw [hq]
          exact ⟨rfl, fun _ _ hh => by cases hh; exact hx⟩)
      have HD2 := Lib.hid hd2
      have HR2 := Lib.hid hR2
      have HE2 := Lib.hid hE2
      have HO2 := Lib.hid ho2
      clear hd2 hR2 hE2 ho2 hcase hz hst hsl
      obtain ⟨d0, d1, d2, d3, _, _, _, _⟩ := four_free HE2.out
      obtain ⟨e0, e1, e2, e3, f0, f1, f2, f3⟩ := four_free HR2.out
      go_wp2_with fail
      refine bodyPost_ret (results_cell_row (p := 6) rfl _ _ w.heap.size 46 #[.int .i64 o, .int .i64 m, .string s, .slice a n c] (0, 0) _ rfl (put4 HR2.out) Tryz.underlying46 rfl (by kernel_rfl)) rfl ?_
      refine ⟨_, rfl, ⟨o, m, s, a, n, c, rfl⟩, ?_, Only.put4 HO2.out (.inr (Nat.le_refl _)) _ _ _ _, fun x ts hh => ?_⟩
      · rw [HF.out.1]
        exact HD2.out.far4 (by omega) (by omega) _ _ _ _
      · exact LX.mono (Q := Sm w.heap.size E) (by intro q hq _; have := hq.1; show w.heap.size ≤ q; omega) _ ((HF.out.2 x ts hh).keep (Keeps.only (S := fun b => b = w.heap.size) (Only.put4 (Only.refl (fun b => b = w.heap.size) _) (.inl rfl) _ _ _ _) (by intro q hq e; have := hq.1; omega)))
    · rcases r with q | ⟨x, ts⟩
      · exact absurd rfl hz
      · have hz' : ¬ jn ts = 0 := hz
        have hst : stp jn (left (.ok (x, ts) : P.Res EX)) = .ok ts.tail := by
          show (if jn ts = 0 then _ else _) = _
          rw [if_neg hz']
          rfl
        rw [hst] at hd2 HM0
        obtain ⟨hx, f, hf, hq⟩ := hcase
        have HX := Lib.hid hx
        have HQ := Lib.hid hq
        have HD6 := Lib.hid hd2
        have HR6 := Lib.hid hR2
        have HE6 := Lib.hid hE2
        have HO6 := Lib.hid ho2
        have HZ := Lib.hid hz'
        have hlv : 0 < ts.tail.length := hd2.live
        have hls : ts.length ≤ slen st := hsl
        have hlt : ts.tail.length ≤ ts.length := by rw [List.length_tail]; omega
        have hSd := HS.out (.ok ts.tail) wr.drew HD6.out.drew (show ts.tail.length ≤ slen st by omega)
        have HSd := Lib.hid hSd
        have hne : ((jn ts) != 0) = true := by simpa using hz'
        show Code.wp _ _ _ _ _
        clear hd2 hR2 hE2 ho2 hx hq hz hz' hst hsl hSd
        generalize hJn : onJ jn (left (.ok (x, ts) : P.Res EX)) = op at *
        have hop : op = jn ts := hJn.symm
        have HJn := Lib.hid hop
        rw [← hop] at hne
        clear hJn hop
        obtain ⟨d0, d1, d2, d3, f0, f1, f2, f3⟩ := four_free HE6.out
        have hEl := HE6.out.lt
        go_wp2_with fail
        go_region_with (first | (go_at_call 149; (with_reducible refine HSd.out.mono ?_); rintro e w7 ⟨v7, rfl, ⟨o7, m7, s7, a7, n7, c7, rfl⟩, hd7, ho7, hx7⟩; have hE7 := (HE6.out.only (S := (· = C)) ((Only.refl (· = C) wr).drew) (by omega)).only ho7 (by omega); obtain ⟨p0, p1, p2, p3, r0, r1, r2, r3⟩ := four_free hE7) | (go_at_call 141; (with_reducible refine (exprPair_d _ _ _ _ _ _ _ _ _ _ _ _ _ _).mono ?_); rintro e w8 ⟨K, rfl, hK, hB8, hb8⟩; have hE8 := hE7.live' hb8; obtain ⟨p0, p1, p2, p3, r0, r1, r2, r3⟩ := four_free hE8))
        all_goals
          have HR := Lib.hid (fun oj w10 (h10 : JoinD C g TS pv jn (left (side ts.tail)) ((((w8.setCell ⟨E, 0, none⟩ (.int .i64 op)).setCell ⟨E, 1, none⟩ (.int .i64 0)).setCell ⟨E, 2, none⟩ (.string ⟨#[]⟩)).setCell ⟨E, 3, none⟩ (.slice (some ⟨K, 0, none⟩) 2 2)) (.returned (.int .i64 oj)) w10) => grX_round (f := f) HJn.out HZ.out hls HL.out hCl hgl hE hf HQ.out HO6.out HE6.out HR6.out HX.out hd7 (((Only.refl (· = C) wr).drew).trans ho7) hx7 hK hB8 hb8 h10 H0.out hlv)
          have hs7 := ho7.size
          have hcall := HJ.out (left (side ts.tail)) ((((w8.setCell ⟨E, 0, none⟩ (.int .i64 op)).setCell ⟨E, 1, none⟩ (.int .i64 0)).setCell ⟨E, 2, none⟩ (.string ⟨#[]⟩)).setCell ⟨E, 3, none⟩ (.slice (some ⟨K, 0, none⟩) 2 2)) ((Dc.below (st := left (side ts.tail)) hd7 hb8).far4 (by omega) (by omega) _ _ _ _)
          have HCL := Lib.hid hcall
          clear hcall hd7 hx7 hB8 hb8 ho7
          go_wp2_with fail
          with_reducible refine HCL.out.mono ?_
          rintro e w10 ⟨rfl, hd10, ho10⟩
          have HRR := Lib.hid (HR.out _ w10 ⟨rfl, hd10, ho10⟩)
          clear hd10 ho10
          go_wp2_with fail
          go_roundw
          case rel => exact HRR.out.1
          case measure =>
            rw [HRR.out.2.2.lnAt, HM0.out]
            exact HRR.out.2.1
end Go.Proofs.YtgobcflfhabdhaaGreatDoor.Lx
/-
  What atom of the developers' cursor tells, whatever the state: a contract.
-/
namespace Go.Proofs.YtgobcflfhabdhaaGreatDoor.Lx
open Go.RowKit
open L (Tok)
open P (EX CO ST)
set_option maxRecDepth 100000
set_option linter.unusedVariables false
set_option linter.unusedSimpArgs false
/-- A sign is no name. -/
theorem Dc.sign {w : World} {C g : Nat} {TS : List Tok} {pv : Value} {st : Sta} (h : Dc w C g TS pv st) {b : UInt8} {s : List UInt8} (hs : onIs (b :: s) st = true) (hb : L.letB b = false) : onN st = false := by
  rcases st with q | ts
  · rfl
  · obtain ⟨a, n, c, _, k, rfl, hk, _⟩ := h.blk
    have hg := h.good k hk
    rw [drop_tat hk] at hs ⊢
    have hs' : ((((tat TS k).kind == 1) || ((tat TS k).kind == 3)) && ((tat TS k).text == b :: s)) = true := hs
    show (((tat TS k).kind == 1) && !kwB (tat TS k).text) = false
    generalize tat TS k = t at *
    rcases hg with ⟨h1, b', r', ht, hl⟩ | h3 | ⟨h2, _⟩ | ⟨h4, _⟩
    · rw [ht] at hs'
      simp only [Bool.and_eq_true, beq_iff_eq] at hs'
      obtain ⟨_, e⟩ := hs'
      injection e with e1 _
      rw [e1, hb] at hl
      cases hl
    · rw [h3]; rfl
    · rw [h2]; rfl
    · rw [h4]; rfl
theorem on_num {st : Sta} (h : onD st = true) : ∃ t r, st = .ok (t :: r) ∧ on st P.pNum = .ok (t.n, r) := by
  rcases st with q | ts
  · cases h
  · cases ts with
    | nil => cases h
    | cons t r =>
      refine ⟨t, r, rfl, ?_⟩
      show P.pNum (t :: r) = _
      have h' : P.isD (t :: r) = true := h
      unfold P.pNum
      simp only [h', if_true]
theorem on_num_no {ts : List Tok} (h : P.isD ts = false) : ∃ p, P.pNum ts = .error p := by
  cases ts with
  | nil => exact ⟨_, rfl⟩
  | cons t r =>
    refine ⟨t.at', ?_⟩
    unfold P.pNum
    simp only [h]
    rfl
theorem on_name_no {ts : List Tok} (h : P.isN ts = false) : P.pName ts = .error (P.here ts) := by
  cases ts with
  | nil => rfl
  | cons t r =>
    unfold P.pName
    simp only [h]
    rfl
theorem atom_num_eq (rec : List Tok → P.Res EX) {st : Sta} {n : Nat} {r : List Tok} (h : on st P.pNum = .ok (n, r)) : on st (P.atomF rec) = .ok (.mk 1 n [] [], r) := by
  rcases st with q | ts
  · cases h
  · have h' : P.pNum ts = .ok (n, r) := h
    show P.atomF rec ts = _
    unfold P.atomF
    rw [h']
theorem atom_open_eq (rec : List Tok → P.Res EX) {st : Sta} (h1 : onD st = false) (h2 : onN st = false) (h3 : onIs [40] st = true) :
    left (on st (P.atomF rec)) = onNeed [41] (left (on (tl st) rec)) ∧ ∀ e ts, on st (P.atomF rec) = .ok (e, ts) → ∃ r, on (tl st) rec = .ok (e, r) := by
  obtain ⟨t, r, rfl, _⟩ := onIs_live h3
  obtain ⟨p, e1⟩ := on_num_no (ts := t :: r) h1
  have e2 := on_name_no (ts := t :: r) h2
  have e3 : P.need [40] (t :: r) = .ok r := by
    unfold P.need
    rw [show P.isS [40] (t :: r) = true from h3]
    rfl
  show left (P.atomF rec (t :: r)) = onNeed [41] (left (rec r)) ∧ ∀ e ts, P.atomF rec (t :: r) = .ok (e, ts) → ∃ r', rec r = .ok (e, r')
  unfold P.atomF
  rw [e1, e2, e3]
  simp only
  cases h4 : rec r with
  | error q => exact ⟨rfl, fun _ _ hh => by cases hh⟩
  | ok y =>
    obtain ⟨y, u⟩ := y
    simp only
    cases h5 : P.need [41] u with
    | error q => exact ⟨by show _ = P.need [41] u; rw [h5]; rfl, fun _ _ hh => by cases hh⟩
    | ok u' => exact ⟨by show _ = P.need [41] u; rw [h5]; rfl, fun _ _ hh => by cases hh; exact ⟨u, rfl⟩⟩
theorem atom_name_eq (rec : List Tok → P.Res EX) {st : Sta} (h1 : onD st = false) (h3 : onIs [40] st = false) :
    left (on st (P.atomF rec)) = left (on st P.pName) ∧ ∀ e ts, on st (P.atomF rec) = .ok (e, ts) → ∃ s, on st P.pName = .ok (s, ts) ∧ e = .mk 2 0 s [] := by
  rcases st with q | ts
  · exact ⟨rfl, fun _ _ hh => by cases hh⟩
  · obtain ⟨p, e1⟩ := on_num_no (ts := ts) h1
    show left (P.atomF rec ts) = left (P.pName ts) ∧ ∀ e ts', P.atomF rec ts = .ok (e, ts') → ∃ s, P.pName ts = .ok (s, ts') ∧ e = .mk 2 0 s []
    unfold P.atomF
    rw [e1]
    simp only
    cases h2 : P.pName ts with
    | ok y =>
      obtain ⟨s, u⟩ := y
      exact ⟨rfl, fun _ _ hh => by cases hh; exact ⟨s, rfl, rfl⟩⟩
    | error q =>
      have hn : P.isN ts = false := by
        cases hh : P.isN ts with
        | false => rfl
        | true =>
          cases ts with
          | nil => cases hh
          | cons t r =>
            unfold P.pName at h2
            simp only [hh, if_true] at h2
            cases h2
      have e2 := on_name_no hn
      rw [h2] at e2
      injection e2 with e2
      have e3 : P.need [40] ts = .error (P.here ts) := by
        unfold P.need
        rw [show P.isS [40] ts = false from h3]
        rfl
      rw [e3]
      exact ⟨by rw [e2]; rfl, fun _ _ hh => by cases hh⟩
set_option maxHeartbeats 1600000 in
theorem atom_d (C g : Nat) (TS : List Tok) (pv : Value) (st : Sta) (rec : List Tok → P.Res EX) (w : World) (h : Dc w C g TS pv st)
    (hr : ∀ st' w, Dc w C g TS pv st' → slen st' < slen st → Calls Tryz.prog 127 #[.pointer (some ⟨C, 0, none⟩)] w (TotD (LX (From w.heap.size)) AnyX C g TS pv (on st' rec) w)) :
    Calls Tryz.prog 149 #[.pointer (some ⟨C, 0, none⟩)] w (TotD (LX (From w.heap.size)) AnyX C g TS pv (on st (P.atomF rec)) w) := by
  obtain ⟨hCl, hgl⟩ := h.lts
  have HD := Lib.hid h
  have HR := Lib.hid hr
  have HNO := Lib.hid (fun hh => h.sign (b := 40) (s := []) hh (by decide))
  clear h hr
  cases hd : onD st with
  | true =>
    obtain ⟨t0, r0, hst, hnum⟩ := on_num hd
    have HA := Lib.hid (atom_num_eq rec hnum)
    have HND := Lib.hid hnum
    have HON := Lib.hid hd
    clear hd hst hnum
    go_enter Tryz.func149, Tryz.ntmps149
    go_wp2_with fail
    have HD0 := Lib.hid (HD.out.below (w' := w.alloc (.cells zx 46)) ((Below.refl _ _).alloc (Nat.le_refl _) _))
    have HO0 := Lib.hid ((Only.refl (· = C) w).alloc (.cells zx 46))
    have HB0 := Lib.hid (Blk.new w 46 zx)
    generalize w.alloc (.cells zx 46) = w0 at *
    with_reducible refine (atNumber_d C g TS pv st _ HD0.out).mono ?_
    rintro e w1 ⟨rfl, hb1⟩
    rw [HON.out]
    have HD1 := Lib.hid (HD0.out.below hb1)
    have HO1 := Lib.hid (HO0.out.trans (Only.of_below hb1))
    have HB1 := Lib.hid (HB0.out.live' hb1)
    clear hb1
    go_wp2_with fail
    with_reducible refine (number_d C g TS pv st _ HD1.out).mono ?_
    rintro e w2 ⟨t, rfl, hd2, ho2, ht2⟩
    have HT := Lib.hid (ht2 _ _ HND.out)
    have HD2 := Lib.hid hd2
    have HO2 := Lib.hid (HO1.out.trans ho2)
    have HB2 := Lib.hid (HB1.out.only ho2 (by omega))
    clear hd2 ho2 ht2
    obtain ⟨tk, tx, tn, ta⟩ := t
    rw [tokV]
    have q2 := fun w => tf2 (.int .i64 tk) (.string (bs tx)) (.int .i64 tn) (.int .i64 ta) w
    obtain ⟨c0, c1, c2, c3, f0, f1, f2, f3⟩ := four_free HB2.out
    go_wp2_with fail
    refine bodyPost_ret (results_cell_row (p := 2) rfl _ _ w.heap.size 46 #[.int .i64 1, .int .i64 tn, .string ⟨#[]⟩, .slice none 0 0] (0, 0) _ rfl (put4 HB2.out) Tryz.underlying46 rfl (by kernel_rfl)) rfl ?_
    refine ⟨_, rfl, ⟨_, _, _, _, _, _, rfl⟩, ?_, Only.put4 HO2.out (.inr (Nat.le_refl _)) _ _ _ _, fun x ts hh => ?_⟩
    · rw [HA.out]
      have := HD2.out
      rw [HND.out] at this
      exact this.far4 (by omega) (by omega) _ _ _ _
    · rw [HA.out] at hh
      cases hh
      rw [show (t0.n : Int) = ((tn : Nat) : Int) from by rw [← HT.out]]
      exact lx_leaf _ _ _ _ [] _ _
  | false =>
    have HON := Lib.hid hd
    cases hp : onIs [40] st with
    | true =>
      have hnn := HNO.out hp
      obtain ⟨ha1, ha2⟩ := atom_open_eq rec hd hnn hp
      have HA1 := Lib.hid ha1
      have HA2 := Lib.hid ha2
      have HP := Lib.hid hp
      obtain ⟨t0, r0, hst, _⟩ := onIs_live hp
      have hsl : slen (tl st) < slen st := by
        rw [hst]
        show r0.length < r0.length + 1
        omega
      clear hd hp hnn ha1 ha2 hst
      go_enter Tryz.func149, Tryz.ntmps149
      go_wp2_with fail
      have HD0 := Lib.hid (HD.out.below (w' := w.alloc (.cells zx 46)) ((Below.refl _ _).alloc (Nat.le_refl _) _))
      have HO0 := Lib.hid ((Only.refl (· = C) w).alloc (.cells zx 46))
      have HB0 := Lib.hid (Blk.new w 46 zx)
      generalize w.alloc (.cells zx 46) = w0 at *
      with_reducible refine (atNumber_d C g TS pv st _ HD0.out).mono ?_
      rintro e w1 ⟨rfl, hb1⟩
      rw [HON.out]
      have HD1 := Lib.hid (HD0.out.below hb1)
      have HO1 := Lib.hid (HO0.out.trans (Only.of_below hb1))
      have HB1 := Lib.hid (HB0.out.live' hb1)
      clear hb1
      go_wp2_with fail
      with_reducible refine (pass_d C g TS pv st ⟨#[40]⟩ _ HD1.out (by decide)).mono ?_
      rintro e w2 ⟨rfl, hd2, ho2⟩
      rw [show by' (⟨#[40]⟩ : ByteArray) = [40] from rfl, HP.out] at hd2 ⊢
      have HD2 : Hid (Dc w2 C g TS pv (tl st)) := Lib.hid hd2
      have HO2 := Lib.hid (HO1.out.trans ho2)
      have HB2 := Lib.hid (HB1.out.only ho2 (by omega))
      clear hd2 ho2
      go_wp2_with fail
      have hcall := HR.out (tl st) _ HD2.out hsl
      with_reducible refine hcall.mono ?_
      rintro e w3 ⟨v3, rfl, ⟨o, m, s, a, n, c, rfl⟩, hd3, ho3, hx3⟩
      have HD3 := Lib.hid hd3
      have HX3 := Lib.hid hx3
      have HO3 := Lib.hid (HO2.out.trans ho3)
      have HB3 := Lib.hid (HB2.out.only ho3 (by omega))
      have h23 := ho3.size
      have h2l := HB2.out.lt
      clear hd3 ho3 hx3 hcall
      go_wp2_with fail
      have hb4 : Below w3.heap.size w3 (w3.alloc (.cells #[.int .i64 o, .int .i64 m, .string s, .slice a n c] 46)) := (Below.refl _ _).alloc (Nat.le_refl _) _
      have HE4 := Lib.hid (Blk.new w3 46 #[.int .i64 o, .int .i64 m, .string s, .slice a n c])
      have HD4 := Lib.hid (HD3.out.below hb4)
      have HO4 := Lib.hid (HO3.out.trans (Only.of_below hb4))
      have HB4 := Lib.hid (HB3.out.live' hb4)
      have HX4 := Lib.hid (fun x ts hh => (HX3.out x ts hh).keep (Keeps.below hb4 (Nat.le_refl _)))
      clear HX3 hb4
      generalize w3.alloc (.cells #[.int .i64 o, .int .i64 m, .string s, .slice a n c] 46) = w4 at *
      with_reducible refine (want_d C g TS pv _ ⟨#[41]⟩ _ HD4.out (by decide)).mono ?_
      rintro e w5 ⟨rfl, hd5, ho5⟩
      have HD5 := Lib.hid hd5
      have HO5 := Lib.hid (HO4.out.trans ho5)
      have HB5 := Lib.hid (HB4.out.only ho5 (by omega))
      have HE5 := Lib.hid (HE4.out.only ho5 (by omega))
      have HX5 := Lib.hid (fun x ts hh => (HX4.out x ts hh).keep (Keeps.only ho5 (by intro q hq e; unfold From at hq; omega)))
      clear hd5 ho5 HX4
      obtain ⟨c0, c1, c2, c3, f0, f1, f2, f3⟩ := four_free HB5.out
      obtain ⟨d0, d1, d2, d3, _, _, _, _⟩ := four_free HE5.out
      go_wp2_with fail
      refine bodyPost_ret (results_cell_row (p := 2) rfl _ _ w.heap.size 46 #[.int .i64 o, .int .i64 m, .string s, .slice a n c] (0, 0) _ rfl (put4 HB5.out) Tryz.underlying46 rfl (by kernel_rfl)) rfl ?_
      refine ⟨_, rfl, ⟨_, _, _, _, _, _, rfl⟩, ?_, Only.put4 HO5.out (.inr (Nat.le_refl _)) _ _ _ _, fun x ts hh => ?_⟩
      · rw [HA1.out]
        exact HD5.out.far4 (by omega) (by omega) _ _ _ _
      · obtain ⟨r, hr⟩ := HA2.out x ts hh
        exact LX.mono (Q := From w2.heap.size) (by intro q hq _; unfold From at hq ⊢; omega) _ ((HX5.out x r hr).keep (Keeps.only (S := fun b => b = w.heap.size) (Only.put4 (Only.refl (fun b => b = w.heap.size) _) (.inl rfl) _ _ _ _) (by intro q hq e; unfold From at hq; omega)))
    | false =>
      obtain ⟨ha1, ha2⟩ := atom_name_eq rec hd hp
      have HA1 := Lib.hid ha1
      have HA2 := Lib.hid ha2
      have HP := Lib.hid hp
      clear hd hp ha1 ha2
      go_enter Tryz.func149, Tryz.ntmps149
      go_wp2_with fail
      have HD0 := Lib.hid (HD.out.below (w' := w.alloc (.cells zx 46)) ((Below.refl _ _).alloc (Nat.le_refl _) _))
      have HO0 := Lib.hid ((Only.refl (· = C) w).alloc (.cells zx 46))
      have HB0 := Lib.hid (Blk.new w 46 zx)
      generalize w.alloc (.cells zx 46) = w0 at *
      with_reducible refine (atNumber_d C g TS pv st _ HD0.out).mono ?_
      rintro e w1 ⟨rfl, hb1⟩
      rw [HON.out]
      have HD1 := Lib.hid (HD0.out.below hb1)
      have HO1 := Lib.hid (HO0.out.trans (Only.of_below hb1))
      have HB1 := Lib.hid (HB0.out.live' hb1)
      clear hb1
      go_wp2_with fail
      with_reducible refine (pass_d C g TS pv st ⟨#[40]⟩ _ HD1.out (by decide)).mono ?_
      rintro e w2 ⟨rfl, hd2, ho2⟩
      rw [show by' (⟨#[40]⟩ : ByteArray) = [40] from rfl, HP.out] at hd2 ⊢
      have HD2 : Hid (Dc w2 C g TS pv st) := Lib.hid hd2
      have HO2 := Lib.hid (HO1.out.trans ho2)
      have HB2 := Lib.hid (HB1.out.only ho2 (by omega))
      clear hd2 ho2
      go_wp2_with fail
      with_reducible refine (name_d C g TS pv st _ HD2.out).mono ?_
      rintro e w3 ⟨t, rfl, hd3, ho3, ht3⟩
      have HT := Lib.hid ht3
      have HD3 := Lib.hid hd3
      have HO3 := Lib.hid (HO2.out.trans ho3)
      have HB3 := Lib.hid (HB2.out.only ho3 (by omega))
      clear hd3 ho3 ht3
      obtain ⟨tk, tx, tn, ta⟩ := t
      rw [tokV]
      have q2 := fun w => tf1 (.int .i64 tk) (.string (bs tx)) (.int .i64 tn) (.int .i64 ta) w
      generalize hX : bs tx = X at *
      obtain ⟨c0, c1, c2, c3, f0, f1, f2, f3⟩ := four_free HB3.out
      go_wp2_with fail
      refine bodyPost_ret (results_cell_row (p := 2) rfl _ _ w.heap.size 46 #[.int .i64 2, .int .i64 0, .string X, .slice none 0 0] (0, 0) _ rfl (put4 HB3.out) Tryz.underlying46 rfl (by kernel_rfl)) rfl ?_
      refine ⟨_, rfl, ⟨_, _, _, _, _, _, rfl⟩, ?_, Only.put4 HO3.out (.inr (Nat.le_refl _)) _ _ _ _, fun x ts hh => ?_⟩
      · rw [HA1.out]
        exact HD3.out.far4 (by omega) (by omega) _ _ _ _
      · obtain ⟨s, h1, rfl⟩ := HA2.out x ts hh
        have h2 := HT.out s ts h1
        rw [← hX, show tx = s from h2]
        exact lx_leaf _ _ _ _ _ _ _
end Go.Proofs.YtgobcflfhabdhaaGreatDoor.Lx
/-
  What sum and expr of the developers' cursor tell, whatever the state; expr by the plain reader.
-/
namespace Go.Proofs.YtgobcflfhabdhaaGreatDoor.Lx
open Go.RowKit
open L (Tok)
open P (EX CO ST)
set_option maxRecDepth 100000
set_option linter.unusedVariables false
set_option linter.unusedSimpArgs false
theorem on_congr {α : Type} {p q : List Tok → P.Res α} (h : ∀ ts, p ts = q ts) (st : Sta) : on st p = on st q := by
  rcases st with e | ts
  · rfl
  · exact h ts
set_option maxHeartbeats 800000 in
theorem sum_d (C g : Nat) (TS : List Tok) (pv : Value) (st : Sta) (rec : List Tok → P.Res EX) (w : World) (h : Dc w C g TS pv st) (hl : P.Less rec)
    (hr : ∀ st' w, Dc w C g TS pv st' → slen st' < slen st → Calls Tryz.prog 127 #[.pointer (some ⟨C, 0, none⟩)] w (TotD (LX (From w.heap.size)) AnyX C g TS pv (on st' rec) w)) :
    Calls Tryz.prog 139 #[.pointer (some ⟨C, 0, none⟩)] w (TotD (LX (From w.heap.size)) AnyX C g TS pv (on st (P.sumF rec)) w) := by
  obtain ⟨hCl, hgl⟩ := h.lts
  have HD := Lib.hid h
  have HE := Lib.hid (on_congr (P.sumF_group rec) st)
  have HG := Lib.hid (fun w h => groupX_d C g TS pv st P.jSum (P.atomF rec) w h (fun st w h => sums_d C g TS pv st w h) (fun st' w h hs => atom_d C g TS pv st' rec w h fun st'' w h hs' => hr st'' w h (by omega)) (P.atomF_less hl) rfl)
  clear h hr hl
  go_enter Tryz.func139, Tryz.ntmps139
  go_wp2_with fail
  have HD0 := Lib.hid (HD.out.below (w' := w.alloc (.cells zx 46)) ((Below.refl _ _).alloc (Nat.le_refl _) _))
  have HO0 := Lib.hid ((Only.refl (· = C) w).alloc (.cells zx 46))
  have HB0 := Lib.hid (Blk.new w 46 zx)
  generalize w.alloc (.cells zx 46) = w0 at *
  have hcall := HG.out _ HD0.out
  with_reducible refine hcall.mono ?_
  rintro e w1 ⟨v1, rfl, ⟨o, m, s, a, n, c, rfl⟩, hd1, ho1, hx1⟩
  have HD1 := Lib.hid hd1
  have HX1 := Lib.hid hx1
  have HO1 := Lib.hid (HO0.out.trans ho1)
  have HB1 := Lib.hid (HB0.out.only ho1 (by omega))
  have h0l := HB0.out.lt
  clear hd1 hx1 ho1 hcall
  obtain ⟨c0, c1, c2, c3, f0, f1, f2, f3⟩ := four_free HB1.out
  go_wp2_with fail
  refine bodyPost_ret (results_cell_row (p := 2) rfl _ _ w.heap.size 46 #[.int .i64 o, .int .i64 m, .string s, .slice a n c] (0, 0) _ rfl (put4 HB1.out) Tryz.underlying46 rfl (by kernel_rfl)) rfl ?_
  rw [HE.out]
  refine ⟨_, rfl, ⟨_, _, _, _, _, _, rfl⟩, HD1.out.far4 (by omega) (by omega) _ _ _ _, Only.put4 HO1.out (.inr (Nat.le_refl _)) _ _ _ _, fun x ts hh => ?_⟩
  exact LX.mono (Q := From w0.heap.size) (by intro q hq _; unfold From at hq ⊢; omega) _ ((HX1.out x ts hh).keep (Keeps.only (S := fun b => b = w.heap.size) (Only.put4 (Only.refl (fun b => b = w.heap.size) _) (.inl rfl) _ _ _ _) (by intro q hq e; unfold From at hq; omega)))
theorem exprF_cmp (rec : List Tok → P.Res EX) (ts : List Tok) : P.exprF rec ts = (match P.sumF rec ts with
    | .error p => .error p
    | .ok (e, r) =>
      if P.jCmp r = 0 then .ok (e, r)
      else
        match P.sumF rec r.tail with
        | .error p => .error p
        | .ok (a, r2) => .ok (P.prX (P.jCmp r) e a, r2)) := by
  unfold P.exprF
  cases P.sumF rec ts with
  | error p => rfl
  | ok y =>
    obtain ⟨e, r⟩ := y
    show (if (P.isS [61, 61] r || P.isS [60] r) = true then _ else _) = _
    cases h1 : P.isS [61, 61] r with
    | true =>
      have h2 := P.isS_one h1 (s' := [60]) (by decide)
      have hj : P.jCmp r = 5 := by rw [P.jCmp, h1]; rfl
      simp only [hj]
      rw [h2]
      rfl
    | false =>
      cases h2 : P.isS [60] r with
      | true =>
        have hj : P.jCmp r = 6 := by rw [P.jCmp, h1, h2]; rfl
        simp only [hj]
        rfl
      | false =>
        have hj : P.jCmp r = 0 := by rw [P.jCmp, h1, h2]; rfl
        simp only [hj]
        rfl
theorem expr_stop {rec : List Tok → P.Res EX} {st : Sta} (hz : onJ P.jCmp (left (on st (P.sumF rec))) = 0) : on st (P.exprF rec) = on st (P.sumF rec) := by
  rcases st with q | tt
  · rfl
  · show P.exprF rec tt = P.sumF rec tt
    have hz' : onJ P.jCmp (left (P.sumF rec tt)) = 0 := hz
    rw [exprF_cmp]
    cases hh : P.sumF rec tt with
    | error p => rfl
    | ok y =>
      obtain ⟨y, r⟩ := y
      rw [hh] at hz'
      have hz2 : P.jCmp r = 0 := hz'
      simp only [hz2, if_true]
theorem expr_more {rec : List Tok → P.Res EX} {st : Sta} {x : EX} {ts : List Tok} (hsum : on st (P.sumF rec) = .ok (x, ts)) (hz : ¬ P.jCmp ts = 0) :
    on st (P.exprF rec) = (match P.sumF rec ts.tail with
      | .error p => .error p
      | .ok (a, r2) => .ok (P.prX (P.jCmp ts) x a, r2)) := by
  rcases st with q | tt
  · cases hsum
  · have hs' : P.sumF rec tt = .ok (x, ts) := hsum
    show P.exprF rec tt = _
    rw [exprF_cmp, hs']
    simp only [if_neg hz]
set_option maxHeartbeats 1600000 in
theorem expr_d (C g : Nat) (TS : List Tok) (pv : Value) (st : Sta) (rec : List Tok → P.Res EX) (w : World) (h : Dc w C g TS pv st) (hl : P.Less rec)
    (hr : ∀ st' w, Dc w C g TS pv st' → slen st' < slen st → Calls Tryz.prog 127 #[.pointer (some ⟨C, 0, none⟩)] w (TotD (LX (From w.heap.size)) AnyX C g TS pv (on st' rec) w)) :
    Calls Tryz.prog 127 #[.pointer (some ⟨C, 0, none⟩)] w (TotD (LX (From w.heap.size)) AnyX C g TS pv (on st (P.exprF rec)) w) := by
  obtain ⟨hCl, hgl⟩ := h.lts
  have HD := Lib.hid h
  have HE := Lib.hid (on_congr (exprF_cmp rec) st)
  have HG := Lib.hid (fun st' w h (hs : slen st' ≤ slen st) => sum_d C g TS pv st' rec w h hl fun st'' w h hs' => hr st'' w h (by omega))
  have HL := Lib.hid (P.sumF_less hl)
  clear h hr hl
  go_enter Tryz.func127, Tryz.ntmps127
  go_wp2_with fail
  have HD0 := Lib.hid (HD.out.below (w' := w.alloc (.cells zx 46)) ((Below.refl _ _).alloc (Nat.le_refl _) _))
  have HO0 := Lib.hid ((Only.refl (· = C) w).alloc (.cells zx 46))
  have HB0 := Lib.hid (Blk.new w 46 zx)
  generalize w.alloc (.cells zx 46) = w0 at *
  have hcall := HG.out st _ HD0.out (Nat.le_refl _)
  with_reducible refine hcall.mono ?_
  rintro e w1 ⟨v1, rfl, ⟨o, m, s, a, n, c, rfl⟩, hd1, ho1, hx1⟩
  have HD1 := Lib.hid hd1
  have HX1 := Lib.hid hx1
  have HO1 := Lib.hid (HO0.out.trans ho1)
  have HB1 := Lib.hid (HB0.out.only ho1 (by omega))
  have h0l := HB0.out.lt
  have h1s := ho1.size
  clear hd1 hx1 ho1 hcall
  go_wp2_with fail
  have hb2 : Below w1.heap.size w1 (w1.alloc (.cells #[.int .i64 o, .int .i64 m, .string s, .slice a n c] 46)) := (Below.refl _ _).alloc (Nat.le_refl _) _
  have HE2 := Lib.hid (Blk.new w1 46 #[.int .i64 o, .int .i64 m, .string s, .slice a n c])
  have HD2 := Lib.hid (HD1.out.below hb2)
  have HO2 := Lib.hid (HO1.out.trans (Only.of_below hb2))
  have HB2 := Lib.hid (HB1.out.live' hb2)
  have HX2 := Lib.hid (fun x ts hh => (HX1.out x ts hh).keep (Keeps.below hb2 (Nat.le_refl _)))
  clear HX1 hb2 HD1 HO1 HB1
  generalize w1.alloc (.cells #[.int .i64 o, .int .i64 m, .string s, .slice a n c] 46) = w2 at *
  generalize w1.heap.size = E at *
  with_reducible refine (compares_d C g TS pv _ _ HD2.out).mono ?_
  rintro e w3 ⟨rfl, hd3, ho3⟩
  have HD3 := Lib.hid hd3
  have HO3 := Lib.hid (HO2.out.trans ho3)
  have HB3 := Lib.hid (HB2.out.only ho3 (by omega))
  have HE3 := Lib.hid (HE2.out.only ho3 (by omega))
  have h3s := ho3.size
  have HX3 := Lib.hid (fun x ts hh => (HX2.out x ts hh).keep (Keeps.only ho3 (by intro q hq e; unfold From at hq; omega)))
  clear HX2 hd3 ho3 HD2 HO2 HB2 HE2
  have HEl := HE3.out.lt
  by_cases hz : onJ P.jCmp (left (on st (P.sumF rec))) = 0
  · have HF := Lib.hid (expr_stop hz)
    have HDS := Lib.hid (show Dc w3 C g TS pv (left (on st (P.sumF rec))) by
      have := HD3.out
      unfold stp at this
      rw [if_pos hz] at this
      exact this)
    rw [hz]
    clear hz HD3
    obtain ⟨c0, c1, c2, c3, f0, f1, f2, f3⟩ := four_free HB3.out
    obtain ⟨d0, d1, d2, d3, _, _, _, _⟩ := four_free HE3.out
    go_wp2_with fail
    refine bodyPost_ret (results_cell_row (p := 2) rfl _ _ w.heap.size 46 #[.int .i64 o, .int .i64 m, .string s, .slice a n c] (0, 0) _ rfl (put4 HB3.out) Tryz.underlying46 rfl (by kernel_rfl)) rfl ?_
    refine ⟨_, rfl, ⟨_, _, _, _, _, _, rfl⟩, ?_, Only.put4 HO3.out (.inr (Nat.le_refl _)) _ _ _ _, fun x ts hh => ?_⟩
    · rw [HF.out]
      exact HDS.out.far4 (by omega) (by omega) _ _ _ _
    · rw [HF.out] at hh
      exact LX.mono (Q := From w0.heap.size) (by intro q hq _; unfold From at hq ⊢; omega) _ ((HX3.out x ts hh).keep (Keeps.only (S := fun b => b = w.heap.size) (Only.put4 (Only.refl (fun b => b = w.heap.size) _) (.inl rfl) _ _ _ _) (by intro q hq e; unfold From at hq; omega)))
  · obtain ⟨x, ts, hsum, hz'⟩ : ∃ x ts, on st (P.sumF rec) = .ok (x, ts) ∧ ¬ P.jCmp ts = 0 := by
      cases hh : on st (P.sumF rec) with
      | error p => rw [hh] at hz; exact absurd rfl hz
      | ok y => rw [hh] at hz; exact ⟨y.1, y.2, rfl, hz⟩
    have hsl : ts.tail.length ≤ slen st := by
      rcases st with q | tt
      · cases hsum
      · have := HL.out _ _ _ hsum
        show _ ≤ tt.length
        rw [List.length_tail]
        omega
    have HDS := Lib.hid (show Dc w3 C g TS pv (.ok ts.tail) by
      have := HD3.out
      unfold stp at this
      rw [if_neg hz, hsum] at this
      exact this)
    have hj : onJ P.jCmp (left (on st (P.sumF rec))) = P.jCmp ts := by rw [hsum]; rfl
    have HF := Lib.hid (expr_more hsum hz')
    have HX := Lib.hid (HX3.out x ts hsum)
    have HSd := Lib.hid (HG.out (.ok ts.tail) w3.drew HDS.out.drew hsl)
    rw [hj]
    have hne : ((P.jCmp ts) == 0) = false := by simpa using hz'
    clear hz hsum hz' HD3 hj HX3
    generalize P.jCmp ts = op at *
    obtain ⟨d0, d1, d2, d3, _, _, _, _⟩ := four_free HE3.out
    obtain ⟨c0, c1, c2, c3, f0, f1, f2, f3⟩ := four_free HB3.out
    go_wp2_with fail
    go_region_with (first | (go_at_call 139; (with_reducible refine HSd.out.mono ?_); rintro e w7 ⟨v7, rfl, ⟨o7, m7, s7, a7, n7, c7, rfl⟩, hd7, ho7, hx7⟩; have hE7 := (HE3.out.only (S := (· = C)) ((Only.refl (· = C) w3).drew) (by omega)).only ho7 (by omega); have hB7 := (HB3.out.only (S := (· = C)) ((Only.refl (· = C) w3).drew) (by omega)).only ho7 (by omega); obtain ⟨p0, p1, p2, p3, r0, r1, r2, r3⟩ := four_free hE7) | (go_at_call 141; (with_reducible refine (exprPair_d _ _ _ _ _ _ _ _ _ _ _ _ _ _).mono ?_); rintro e w8 ⟨K, rfl, hK, hB8, hb8⟩; have hR8 := hB7.live' hb8; obtain ⟨b0, b1, b2, b3, r0, r1, r2, r3⟩ := four_free hR8))
    all_goals
      have ho7' : Only (· = C) w3 w7 := ((Only.refl (· = C) w3).drew).trans ho7
      have hs7 := ho7'.size
      have hs8 := hb8.size
      have HR8 := Lib.hid hR8
      have HO8 := Lib.hid ((HO3.out.trans ho7').trans (Only.of_below hb8))
      have HD8 := Lib.hid (Dc.below (st := left (P.sumF rec ts.tail)) hd7 hb8)
      have HY8 := Lib.hid (fun y r (hh : P.sumF rec ts.tail = .ok (y, r)) => (hx7 y r hh).keep (Keeps.below hb8 (Nat.le_refl _)))
      have HX8 := Lib.hid ((HX.out.keep (Keeps.only ho7' (by intro q hq e; unfold From at hq; omega))).keep (Keeps.below hb8 (Nat.le_refl _)))
      have HB8 := Lib.hid hB8
      clear hd7 hx7 hB8 hb8 ho7 ho7' hR8 hE7 hB7
      go_wp2_with fail
      refine bodyPost_ret (results_cell_row (p := 2) rfl _ _ w.heap.size 46 #[.int .i64 op, .int .i64 0, .string ⟨#[]⟩, .slice (some ⟨K, 0, none⟩) 2 2] (0, 0) _ rfl (put4 HR8.out) Tryz.underlying46 rfl (by kernel_rfl)) rfl ?_
      have hp : Only (fun b => b = w.heap.size) w8 ((((w8.setCell ⟨w.heap.size, 0, none⟩ (.int .i64 op)).setCell ⟨w.heap.size, 1, none⟩ (.int .i64 0)).setCell ⟨w.heap.size, 2, none⟩ (.string ⟨#[]⟩)).setCell ⟨w.heap.size, 3, none⟩ (.slice (some ⟨K, 0, none⟩) 2 2)) := Only.put4 (Only.refl (fun b => b = w.heap.size) _) (.inl rfl) _ _ _ _
      have hst : left (on st (P.exprF rec)) = left (P.sumF rec ts.tail) := by
        rw [HF.out]
        cases P.sumF rec ts.tail <;> rfl
      refine ⟨_, rfl, ⟨_, _, _, _, _, _, rfl⟩, ?_, Only.put4 HO8.out (.inr (Nat.le_refl _)) _ _ _ _, fun z ts' hh => ?_⟩
      · rw [hst]
        exact HD8.out.far4 (by omega) (by omega) _ _ _ _
      · rw [HF.out] at hh
        cases hq : P.sumF rec ts.tail with
        | error p => rw [hq] at hh; cases hh
        | ok y =>
          obtain ⟨y, r⟩ := y
          have hy := HY8.out y r hq
          rw [hq] at hh
          cases hh
          refine lx_two (s := []) (show From w.heap.size K by unfold From; omega) (HB8.out.only hp (by omega)) ?_ ?_
          · exact LX.mono (Q := From w0.heap.size) (by intro q hq _; unfold From at hq ⊢; omega) _ (HX8.out.keep (Keeps.only hp (by intro q hq e; unfold From at hq; omega)))
          · have hw3 : w3.drew.heap.size = w3.heap.size := rfl
            exact LX.mono (Q := From w3.drew.heap.size) (by intro q hq _; unfold From at hq ⊢; omega) _ (hy.keep (Keeps.only hp (by intro q hq e; unfold From at hq; omega)))
theorem exprN_d (C g : Nat) (TS : List Tok) (pv : Value) : ∀ (n : Nat) (st : Sta) (w : World), slen st ≤ n → Dc w C g TS pv st →
    Calls Tryz.prog 127 #[.pointer (some ⟨C, 0, none⟩)] w (TotD (LX (From w.heap.size)) AnyX C g TS pv (on st (P.exprN n)) w)
  | 0, st, w, hn, h => by
    rcases st with q | ts
    · exact expr_d C g TS pv (.error q) (P.exprN 0) w h (P.exprN_less 0) fun st' w' h' hs => absurd hs (Nat.not_lt_zero _)
    · have := h.live
      have hn' : ts.length ≤ 0 := hn
      omega
  | n + 1, st, w, hn, h => expr_d C g TS pv st (P.exprN n) w h (P.exprN_less n) fun st' w' h' hs => exprN_d C g TS pv n st' w' (by omega) h'
theorem exprTot_d (C g : Nat) (TS : List Tok) (pv : Value) (st : Sta) (w : World) (h : Dc w C g TS pv st) :
    Calls Tryz.prog 127 #[.pointer (some ⟨C, 0, none⟩)] w (TotD (LX (From w.heap.size)) AnyX C g TS pv (on st P.pExpr) w) := by
  rcases st with q | ts
  · exact exprN_d C g TS pv 0 (.error q) w (Nat.le_refl _) h
  · exact exprN_d C g TS pv ts.length (.ok ts) w (Nat.le_refl _) h
end Go.Proofs.YtgobcflfhabdhaaGreatDoor.Lx
/-
  What grouped tells of the developers' cursor: conditions, joined by ands, with one on both sides.
-/
namespace Go.Proofs.YtgobcflfhabdhaaGreatDoor.Lx
open Go.RowKit
open L (Tok)
open P (EX CO ST)
set_option maxRecDepth 100000
set_option linter.unusedVariables false
set_option linter.unusedSimpArgs false
def GrA (C g : Nat) (TS : List Tok) (pv : Value) (st : Sta) (jn : List Tok → Int) (side : List Tok → P.Res CO) (E R : Nat) (w0 : World) (t : Value) (wr : World) : Prop :=
  ∃ (o m : Int) (s : ByteArray) (u : Int) (a : Option Addr) (n c : Nat) (r : P.Res CO), t = .int .i64 (onJ jn (left r)) ∧ Blk wr E 28 #[.int .i64 o, .int .i64 m, .string s, .int .i64 u, .slice a n c] ∧ Blk wr R 28 zc ∧ Dc wr C g TS pv (stp jn (left r)) ∧ Only (· = C) w0 wr ∧ slen (left r) ≤ slen st ∧
    match r with
    | .ok (x, ts) => LC (Sm R E) wr (.agg #[.int .i64 o, .int .i64 m, .string s, .int .i64 u, .slice a n c]) x ∧ ∃ f, ts.length ≤ f ∧ on st (P.groupF jn side P.prC) = P.groupL jn side P.prC f x ts
    | .error q => on st (P.groupF jn side P.prC) = .error q
/-- A round: what the pair is made of, then stored. -/
theorem grA_round {C g K E : Nat} {TS : List Tok} {pv : Value} {st : Sta} {jn : List Tok → Int} {side : List Tok → P.Res CO} {w w6 w7 w8 w10 : World} {x : CO} {o m : Int} {s : ByteArray} {u : Int} {a : Option Addr} {n c : Nat} {o7 m7 : Int} {s7 : ByteArray} {u7 : Int} {a7 : Option Addr} {n7 c7 : Nat} {ts : List Tok} {f : Nat} {op oj : Int}
    (hop : op = jn ts) (hj : ¬ jn ts = 0) (hls : ts.length ≤ slen st) (hL : P.Less side) (hCl : C < w.heap.size) (hgl : g < w.heap.size) (hE : w.heap.size < E)
    (hf : ts.length ≤ f) (hS : on st (P.groupF jn side P.prC) = P.groupL jn side P.prC f x ts) (hO6 : Only (· = C) w w6) (hE6 : Blk w6 E 28 #[.int .i64 o, .int .i64 m, .string s, .int .i64 u, .slice a n c]) (hR6 : Blk w6 w.heap.size 28 zc) (hX6 : LC (Sm w.heap.size E) w6 (.agg #[.int .i64 o, .int .i64 m, .string s, .int .i64 u, .slice a n c]) x)
    (hd7 : Dc w7 C g TS pv (left (side ts.tail))) (ho7 : Only (· = C) w6 w7) (hx7 : ∀ y r, side ts.tail = .ok (y, r) → LC (From w6.heap.size) w7 (.agg #[.int .i64 o7, .int .i64 m7, .string s7, .int .i64 u7, .slice a7 n7 c7]) y)
    (hK : w7.heap.size ≤ K) (hB8 : Blk w8 K 28 #[.int .i64 o, .int .i64 m, .string s, .int .i64 u, .slice a n c, .int .i64 o7, .int .i64 m7, .string s7, .int .i64 u7, .slice a7 n7 c7]) (hb8 : Below w7.heap.size w7 w8)
    (h10 : JoinD C g TS pv jn (left (side ts.tail)) (((((w8.setCell ⟨E, 0, none⟩ (.int .i64 op)).setCell ⟨E, 1, none⟩ (.int .i64 0)).setCell ⟨E, 2, none⟩ (.string ⟨#[]⟩)).setCell ⟨E, 3, none⟩ (.int .i64 0)).setCell ⟨E, 4, none⟩ (.slice (some ⟨K, 0, none⟩) 2 2)) (.returned (.int .i64 oj)) w10) (hj0 : jn [] = 0) (hlv : 0 < ts.tail.length) :
    GrA C g TS pv st jn side E w.heap.size w (.int .i64 oj) w10 ∧ slen (stp jn (left (side ts.tail))) < slen (.ok ts.tail) ∧ Dc w10 C g TS pv (stp jn (left (side ts.tail))) := by
  have hEl := hE6.lt
  have hs7 := ho7.size
  have hs8 := hb8.size
  have hE7 := hE6.only ho7 (by omega)
  have hR7 := hR6.only ho7 (by omega)
  have hX7 := hX6.keep (Keeps.only ho7 (by intro q hq e; have := hq.1; omega))
  have hE8 := hE7.live' hb8
  have hR8 := hR7.live' hb8
  have hD8 := hd7.below hb8
  have hX8 := hX7.keep (Keeps.below hb8 (Nat.le_refl _))
  have hY8 : ∀ y r, side ts.tail = .ok (y, r) → LC (From w6.heap.size) w8 (.agg #[.int .i64 o7, .int .i64 m7, .string s7, .int .i64 u7, .slice a7 n7 c7]) y := fun y r hy => (hx7 y r hy).keep (Keeps.below hb8 (Nat.le_refl _))
  have hp : Only (fun b => b = E) w8 (((((w8.setCell ⟨E, 0, none⟩ (.int .i64 op)).setCell ⟨E, 1, none⟩ (.int .i64 0)).setCell ⟨E, 2, none⟩ (.string ⟨#[]⟩)).setCell ⟨E, 3, none⟩ (.int .i64 0)).setCell ⟨E, 4, none⟩ (.slice (some ⟨K, 0, none⟩) 2 2)) := Only.put5 (Only.refl (fun b => b = E) w8) (.inl rfl) _ _ _ _ _
  have hO9 : Only (· = C) w (((((w8.setCell ⟨E, 0, none⟩ (.int .i64 op)).setCell ⟨E, 1, none⟩ (.int .i64 0)).setCell ⟨E, 2, none⟩ (.string ⟨#[]⟩)).setCell ⟨E, 3, none⟩ (.int .i64 0)).setCell ⟨E, 4, none⟩ (.slice (some ⟨K, 0, none⟩) 2 2)) := Only.put5 ((hO6.trans ho7).trans (Only.of_below hb8)) (R := E) (.inr (by omega)) _ _ _ _ _
  have hbP : Blk (((((w8.setCell ⟨E, 0, none⟩ (.int .i64 op)).setCell ⟨E, 1, none⟩ (.int .i64 0)).setCell ⟨E, 2, none⟩ (.string ⟨#[]⟩)).setCell ⟨E, 3, none⟩ (.int .i64 0)).setCell ⟨E, 4, none⟩ (.slice (some ⟨K, 0, none⟩) 2 2)) E 28 #[.int .i64 op, .int .i64 0, .string ⟨#[]⟩, .int .i64 0, .slice (some ⟨K, 0, none⟩) 2 2] := put5 hE8
  have hD9 := hD8.other hp (show ¬ C = E by omega) (show ¬ g = E by omega)
  have hR9 := hR8.only hp (show ¬ w.heap.size = E by omega)
  have hB9 := hB8.only hp (show ¬ K = E by omega)
  have hX9 := hX8.keep (Keeps.only hp (by intro q hq e; exact hq.2 e))
  have hY9 : ∀ y r, side ts.tail = .ok (y, r) → LC (From w6.heap.size) (((((w8.setCell ⟨E, 0, none⟩ (.int .i64 op)).setCell ⟨E, 1, none⟩ (.int .i64 0)).setCell ⟨E, 2, none⟩ (.string ⟨#[]⟩)).setCell ⟨E, 3, none⟩ (.int .i64 0)).setCell ⟨E, 4, none⟩ (.slice (some ⟨K, 0, none⟩) 2 2)) (.agg #[.int .i64 o7, .int .i64 m7, .string s7, .int .i64 u7, .slice a7 n7 c7]) y := fun y r hy => (hY8 y r hy).keep (Keeps.only hp (by intro q hq e; unfold From at hq; omega))
  generalize (((((w8.setCell ⟨E, 0, none⟩ (.int .i64 op)).setCell ⟨E, 1, none⟩ (.int .i64 0)).setCell ⟨E, 2, none⟩ (.string ⟨#[]⟩)).setCell ⟨E, 3, none⟩ (.int .i64 0)).setCell ⟨E, 4, none⟩ (.slice (some ⟨K, 0, none⟩) 2 2)) = w9 at *
  obtain ⟨he, hd10, ho10⟩ := h10
  injection he with he
  injection he with _ he
  have hs9 := hO9.size
  obtain ⟨f', rfl⟩ : ∃ f', f = f' + 1 := by
    refine ⟨f - 1, ?_⟩
    cases ts with
    | nil => exact absurd hj0 hj
    | cons t r =>
      simp only [List.length_cons] at hf
      omega
  have hmo := P.groupL_more side P.prC f' x hj
  have hE10 := hbP.only ho10 (show ¬ E = C by omega)
  have hR10 := hR9.only ho10 (show ¬ w.heap.size = C by omega)
  have hB10 := hB9.only ho10 (show ¬ K = C by omega)
  have hX10 := hX9.keep (Keeps.only ho10 (by intro q hq e; have := hq.1; omega))
  have hO10 := hO9.trans ho10
  have htl : ts.tail.length + 1 = ts.length := by
    cases ts with
    | nil => exact absurd hj0 hj
    | cons t r => rfl
  cases hsd : side ts.tail with
  | error p =>
    rw [hsd] at hd10 hmo he
    refine ⟨⟨op, 0, ⟨#[]⟩, 0, some ⟨K, 0, none⟩, 2, 2, .error p, by rw [he], hE10, hR10, hd10, hO10, Nat.zero_le _, ?_⟩, ?_, hd10⟩
    · show on st (P.groupF jn side P.prC) = .error p
      rw [hS, hmo]
    · exact hlv
  | ok y =>
    obtain ⟨y, r⟩ := y
    have hy := hY9 y r hsd
    have hl := hL _ _ _ hsd
    rw [hsd] at hd10 hmo he
    have hy10 := LC.mono (Q := From w6.heap.size) (Q' := Sm w.heap.size E) (by
      intro q hq _
      unfold From at hq
      exact ⟨by omega, by omega⟩) _ (hy.keep (Keeps.only ho10 (by intro q hq e; unfold From at hq; omega)))
    refine ⟨⟨op, 0, ⟨#[]⟩, 0, some ⟨K, 0, none⟩, 2, 2, .ok (P.prC op x y, r), by rw [he]; rfl, hE10, hR10, hd10, hO10, ?_, ?_, f', by omega, ?_⟩, ?_, hd10⟩
    · show r.length ≤ slen st
      omega
    · exact lc_two (s := []) ⟨by omega, by omega⟩ hB10 hX10 hy10
    · rw [hS, hmo, hop]
    · show slen (stp jn (.ok r)) < ts.tail.length
      have : slen (stp jn (.ok r)) ≤ r.length := by
        unfold stp
        split
        · exact Nat.le_refl _
        · show r.tail.length ≤ r.length
          rw [List.length_tail]
          omega
      omega
set_option maxHeartbeats 3200000 in
theorem groupA_d (C g : Nat) (TS : List Tok) (pv : Value) (st : Sta) (jn : List Tok → Int) (side : List Tok → P.Res CO) (w : World) (h : Dc w C g TS pv st)
    (hJ : ∀ st w, Dc w C g TS pv st → Calls Tryz.prog 108 #[.pointer (some ⟨C, 0, none⟩)] w (JoinD C g TS pv jn st w))
    (hSd : ∀ st' w, Dc w C g TS pv st' → slen st' ≤ slen st → Calls Tryz.prog 109 #[.pointer (some ⟨C, 0, none⟩)] w (TotD (LC (From w.heap.size)) AnyC C g TS pv (on st' side) w))
    (hL : P.Less side) (hj0 : jn [] = 0) :
    Calls Tryz.prog 87 #[mval 108 C, mval 109 C, .func (.func 90) #[] #[]] w (TotD (LC (From w.heap.size)) AnyC C g TS pv (on st (P.groupF jn side P.prC)) w) := by
  obtain ⟨hCl, hgl⟩ := h.lts
  have HD := Lib.hid h
  have HJ := Lib.hid hJ
  have HS := Lib.hid hSd
  have HL := Lib.hid hL
  have H0 := Lib.hid hj0
  clear h hJ hSd hL hj0
  unfold mval
  go_enter Tryz.func87, Tryz.ntmps87
  go_wp2_with fail
  have HD0 := Lib.hid (HD.out.below (w' := w.alloc (.cells zc 28)) ((Below.refl _ _).alloc (Nat.le_refl _) _))
  have HO0 := Lib.hid ((Only.refl (· = C) w).alloc (.cells zc 28))
  have HB0 := Lib.hid (Blk.new w 28 zc)
  have hsA : w.heap.size < (w.alloc (.cells zc 28)).heap.size := HB0.out.lt
  generalize w.alloc (.cells zc 28) = w0 at *
  have hcall := HS.out st _ HD0.out (Nat.le_refl _)
  with_reducible refine hcall.mono ?_
  rintro e w1 ⟨v, rfl, ⟨o, m, s, u, a, n, c, rfl⟩, hd1, ho1, hx1⟩
  have HB1 := Lib.hid (HB0.out.only ho1 (by omega))
  have HO1 := Lib.hid (HO0.out.trans ho1)
  have hs1 := ho1.size
  have HD1 := Lib.hid hd1
  have HX1 := Lib.hid hx1
  clear hd1 ho1 hx1 hcall
  go_wp2_with fail
  have HD2 := Lib.hid (HD1.out.below (w' := w1.alloc (.cells #[.int .i64 o, .int .i64 m, .string s, .int .i64 u, .slice a n c] 28)) ((Below.refl _ _).alloc (Nat.le_refl _) _))
  have HO2 := Lib.hid (HO1.out.alloc (.cells #[.int .i64 o, .int .i64 m, .string s, .int .i64 u, .slice a n c] 28))
  have HB2 := Lib.hid (HB1.out.alloc (.cells #[.int .i64 o, .int .i64 m, .string s, .int .i64 u, .slice a n c] 28))
  have HE2 := Lib.hid (Blk.new w1 28 #[.int .i64 o, .int .i64 m, .string s, .int .i64 u, .slice a n c])
  have HK2 := Lib.hid (show Keeps (fun _ => True) w1 (w1.alloc (.cells #[.int .i64 o, .int .i64 m, .string s, .int .i64 u, .slice a n c] 28)) from Keeps.below ((Below.refl _ _).alloc (Nat.le_refl _) _) (Nat.le_refl _))
  have hE : w.heap.size < w1.heap.size := by omega
  generalize w1.alloc (.cells #[.int .i64 o, .int .i64 m, .string s, .int .i64 u, .slice a n c] 28) = w2 at *
  have HX2 := Lib.hid (fun x ts hh => LC.keep (w := w1) (w' := w2) (fun q hq hl => HK2.out q trivial hl) _ (LC.mono (Q := From w0.heap.size) (Q' := Sm w.heap.size w1.heap.size) (by intro q hq hl; unfold From at hq; exact ⟨by omega, by omega⟩) _ (HX1.out x ts hh)))
  clear HX1 HK2
  generalize w1.heap.size = E at *
  have hcall := HJ.out _ _ HD2.out
  with_reducible refine hcall.mono ?_
  rintro e w3 ⟨rfl, hd3, ho3⟩
  have HG : Hid (GrA C g TS pv st jn side E w.heap.size w (.int .i64 (onJ jn (left (on st side)))) w3) := by
    refine Lib.hid ⟨o, m, s, u, a, n, c, on st side, rfl, HE2.out.only ho3 (by omega), HB2.out.only ho3 (by omega), hd3, HO2.out.trans ho3, ?_, ?_⟩
    · rcases st with q | tt
      · exact Nat.zero_le _
      · show slen (left (side tt)) ≤ tt.length
        cases hh : side tt with
        | error p => exact Nat.zero_le _
        | ok y =>
          have := HL.out _ _ _ hh
          show y.2.length ≤ _
          omega
    · rcases st with q | tt
      · rfl
      · show (match side tt with
          | .ok (x, ts) => LC (Sm w.heap.size E) w3 (.agg #[.int .i64 o, .int .i64 m, .string s, .int .i64 u, .slice a n c]) x ∧ ∃ f, ts.length ≤ f ∧ P.groupF jn side P.prC tt = P.groupL jn side P.prC f x ts
          | .error q => P.groupF jn side P.prC tt = .error q)
        cases hh : side tt with
        | error p =>
          show P.groupF jn side P.prC tt = .error p
          unfold P.groupF
          rw [hh]
        | ok y =>
          obtain ⟨y, r⟩ := y
          refine ⟨(HX2.out y r hh).keep (Keeps.only ho3 (by intro q hq e; have := hq.1; omega)), r.length, Nat.le_refl _, ?_⟩
          conv => lhs; unfold P.groupF
          rw [hh]
  clear hcall hd3 ho3 HX2 HD2 HO2 HB2 HE2 HD1 HO1 HB1 HD0 HO0 HB0 hs1
  generalize onJ jn (left (on st side)) = oj0 at *
  go_wp2_with fail
  go_loopw [8] (fun t wr => GrA C g TS pv st jn side E w.heap.size w t wr) (fun _ wr => lnAt C wr)
  case atStart => exact HG.out
  case round =>
    obtain ⟨o, m, s, u, a, n, c, r, rfl, hE2, hR2, hd2, ho2, hsl, hcase⟩ := hrel
    have HM0 := Lib.hid hd2.lnAt
    by_cases hz : onJ jn (left r) = 0
    · have hst : stp jn (left r) = left r := by
        unfold stp
        rw [if_pos hz]
      rw [hst] at hd2
      rw [hz]
      have HF := Lib.hid (show left (on st (P.groupF jn side P.prC)) = left r ∧ ∀ x ts, on st (P.groupF jn side P.prC) = .ok (x, ts) → LC (Sm w.heap.size E) wr (.agg #[.int .i64 o, .int .i64 m, .string s, .int .i64 u, .slice a n c]) x by
        rcases r with q | ⟨x, ts⟩
        · have hc : on st (P.groupF jn side P.prC) = .error q := hcase
          rw [hc]
          exact ⟨rfl, fun _ _ hh => by cases hh⟩
        · obtain ⟨hx, f, hf, hq⟩ := hcase
          rw [P.groupL_stop side P.prC f x (show jn ts = 0 from hz)] at hq
          rw [hq]
          exact ⟨rfl, fun _ _ hh => by cases hh; exact hx⟩)
      have HD2 := Lib.hid hd2
      have HR2 := Lib.hid hR2
      have HE2 := Lib.hid hE2
      have HO2 := Lib.hid ho2
      clear hd2 hR2 hE2 ho2 hcase hz hst hsl
      obtain ⟨d0, d1, d2, d3, d4, _, _, _, _, _⟩ := five_free HE2.out
      obtain ⟨e0, e1, e2, e3, e4, f0, f1, f2, f3, f4⟩ := five_free HR2.out
      go_wp2_with fail
      refine bodyPost_ret (results_cell_row (p := 6) rfl _ _ w.heap.size 28 #[.int .i64 o, .int .i64 m, .string s, .int .i64 u, .slice a n c] (0, 0) _ rfl (put5 HR2.out) Tryz.underlying28 rfl (by kernel_rfl)) rfl ?_
      refine ⟨_, rfl, ⟨o, m, s, u, a, n, c, rfl⟩, ?_, Only.put5 HO2.out (.inr (Nat.le_refl _)) _ _ _ _ _, fun x ts hh => ?_⟩
      · rw [HF.out.1]
        exact HD2.out.far5 (by omega) (by omega) _ _ _ _ _
      · exact LC.mono (Q := Sm w.heap.size E) (by intro q hq _; have := hq.1; show w.heap.size ≤ q; omega) _ ((HF.out.2 x ts hh).keep (Keeps.only (S := fun b => b = w.heap.size) (Only.put5 (Only.refl (fun b => b = w.heap.size) _) (.inl rfl) _ _ _ _ _) (by intro q hq e; have := hq.1; omega)))
    · rcases r with q | ⟨x, ts⟩
      · exact absurd rfl hz
      · have hz' : ¬ jn ts = 0 := hz
        have hst : stp jn (left (.ok (x, ts) : P.Res CO)) = .ok ts.tail := by
          show (if jn ts = 0 then _ else _) = _
          rw [if_neg hz']
          rfl
        rw [hst] at hd2 HM0
        obtain ⟨hx, f, hf, hq⟩ := hcase
        have HX := Lib.hid hx
        have HQ := Lib.hid hq
        have HD6 := Lib.hid hd2
        have HR6 := Lib.hid hR2
        have HE6 := Lib.hid hE2
        have HO6 := Lib.hid ho2
        have HZ := Lib.hid hz'
        have hlv : 0 < ts.tail.length := hd2.live
        have hls : ts.length ≤ slen st := hsl
        have hlt : ts.tail.length ≤ ts.length := by rw [List.length_tail]; omega
        have hSd := HS.out (.ok ts.tail) wr.drew HD6.out.drew (show ts.tail.length ≤ slen st by omega)
        have HSd := Lib.hid hSd
        have hne : ((jn ts) != 0) = true := by simpa using hz'
        show Code.wp _ _ _ _ _
        clear hd2 hR2 hE2 ho2 hx hq hz hz' hst hsl hSd
        generalize hJn : onJ jn (left (.ok (x, ts) : P.Res CO)) = op at *
        have hop : op = jn ts := hJn.symm
        have HJn := Lib.hid hop
        rw [← hop] at hne
        clear hJn hop
        obtain ⟨d0, d1, d2, d3, d4, f0, f1, f2, f3, f4⟩ := five_free HE6.out
        have hEl := HE6.out.lt
        go_wp2_with fail
        go_region_with (first | (go_at_call 109; (with_reducible refine HSd.out.mono ?_); rintro e w7 ⟨v7, rfl, ⟨o7, m7, s7, u7, a7, n7, c7, rfl⟩, hd7, ho7, hx7⟩; have hE7 := (HE6.out.only (S := (· = C)) ((Only.refl (· = C) wr).drew) (by omega)).only ho7 (by omega); obtain ⟨p0, p1, p2, p3, p4, r0, r1, r2, r3, r4⟩ := five_free hE7) | (go_at_call 90; (with_reducible refine (condPair_d _ _ _ _ _ _ _ _ _ _ _ _ _ _ _ _).mono ?_); rintro e w8 ⟨K, rfl, hK, hB8, hb8⟩; have hE8 := hE7.live' hb8; obtain ⟨p0, p1, p2, p3, p4, r0, r1, r2, r3, r4⟩ := five_free hE8))
        all_goals
          have HR := Lib.hid (fun oj w10 (h10 : JoinD C g TS pv jn (left (side ts.tail)) (((((w8.setCell ⟨E, 0, none⟩ (.int .i64 op)).setCell ⟨E, 1, none⟩ (.int .i64 0)).setCell ⟨E, 2, none⟩ (.string ⟨#[]⟩)).setCell ⟨E, 3, none⟩ (.int .i64 0)).setCell ⟨E, 4, none⟩ (.slice (some ⟨K, 0, none⟩) 2 2)) (.returned (.int .i64 oj)) w10) => grA_round (f := f) HJn.out HZ.out hls HL.out hCl hgl hE hf HQ.out HO6.out HE6.out HR6.out HX.out hd7 (((Only.refl (· = C) wr).drew).trans ho7) hx7 hK hB8 hb8 h10 H0.out hlv)
          have hs7 := ho7.size
          have hcall := HJ.out (left (side ts.tail)) (((((w8.setCell ⟨E, 0, none⟩ (.int .i64 op)).setCell ⟨E, 1, none⟩ (.int .i64 0)).setCell ⟨E, 2, none⟩ (.string ⟨#[]⟩)).setCell ⟨E, 3, none⟩ (.int .i64 0)).setCell ⟨E, 4, none⟩ (.slice (some ⟨K, 0, none⟩) 2 2)) ((Dc.below (st := left (side ts.tail)) hd7 hb8).far5 (by omega) (by omega) _ _ _ _ _)
          have HCL := Lib.hid hcall
          clear hcall hd7 hx7 hB8 hb8 ho7
          go_wp2_with fail
          with_reducible refine HCL.out.mono ?_
          rintro e w10 ⟨rfl, hd10, ho10⟩
          have HRR := Lib.hid (HR.out _ w10 ⟨rfl, hd10, ho10⟩)
          clear hd10 ho10
          go_wp2_with fail
          go_roundw
          case rel => exact HRR.out.1
          case measure =>
            rw [HRR.out.2.2.lnAt, HM0.out]
            exact HRR.out.2.1
end Go.Proofs.YtgobcflfhabdhaaGreatDoor.Lx
/-
  What grouped tells of the developers' cursor: conditions, joined by ors, with both on both sides.
-/
namespace Go.Proofs.YtgobcflfhabdhaaGreatDoor.Lx
open Go.RowKit
open L (Tok)
open P (EX CO ST)
set_option maxRecDepth 100000
set_option linter.unusedVariables false
set_option linter.unusedSimpArgs false
def GrO (C g : Nat) (TS : List Tok) (pv : Value) (st : Sta) (jn : List Tok → Int) (side : List Tok → P.Res CO) (E R : Nat) (w0 : World) (t : Value) (wr : World) : Prop :=
  ∃ (o m : Int) (s : ByteArray) (u : Int) (a : Option Addr) (n c : Nat) (r : P.Res CO), t = .int .i64 (onJ jn (left r)) ∧ Blk wr E 28 #[.int .i64 o, .int .i64 m, .string s, .int .i64 u, .slice a n c] ∧ Blk wr R 28 zc ∧ Dc wr C g TS pv (stp jn (left r)) ∧ Only (· = C) w0 wr ∧ slen (left r) ≤ slen st ∧
    match r with
    | .ok (x, ts) => LC (Sm R E) wr (.agg #[.int .i64 o, .int .i64 m, .string s, .int .i64 u, .slice a n c]) x ∧ ∃ f, ts.length ≤ f ∧ on st (P.groupF jn side P.prC) = P.groupL jn side P.prC f x ts
    | .error q => on st (P.groupF jn side P.prC) = .error q
/-- A round: what the pair is made of, then stored. -/
theorem grO_round {C g K E : Nat} {TS : List Tok} {pv : Value} {st : Sta} {jn : List Tok → Int} {side : List Tok → P.Res CO} {w w6 w7 w8 w10 : World} {x : CO} {o m : Int} {s : ByteArray} {u : Int} {a : Option Addr} {n c : Nat} {o7 m7 : Int} {s7 : ByteArray} {u7 : Int} {a7 : Option Addr} {n7 c7 : Nat} {ts : List Tok} {f : Nat} {op oj : Int}
    (hop : op = jn ts) (hj : ¬ jn ts = 0) (hls : ts.length ≤ slen st) (hL : P.Less side) (hCl : C < w.heap.size) (hgl : g < w.heap.size) (hE : w.heap.size < E)
    (hf : ts.length ≤ f) (hS : on st (P.groupF jn side P.prC) = P.groupL jn side P.prC f x ts) (hO6 : Only (· = C) w w6) (hE6 : Blk w6 E 28 #[.int .i64 o, .int .i64 m, .string s, .int .i64 u, .slice a n c]) (hR6 : Blk w6 w.heap.size 28 zc) (hX6 : LC (Sm w.heap.size E) w6 (.agg #[.int .i64 o, .int .i64 m, .string s, .int .i64 u, .slice a n c]) x)
    (hd7 : Dc w7 C g TS pv (left (side ts.tail))) (ho7 : Only (· = C) w6 w7) (hx7 : ∀ y r, side ts.tail = .ok (y, r) → LC (From w6.heap.size) w7 (.agg #[.int .i64 o7, .int .i64 m7, .string s7, .int .i64 u7, .slice a7 n7 c7]) y)
    (hK : w7.heap.size ≤ K) (hB8 : Blk w8 K 28 #[.int .i64 o, .int .i64 m, .string s, .int .i64 u, .slice a n c, .int .i64 o7, .int .i64 m7, .string s7, .int .i64 u7, .slice a7 n7 c7]) (hb8 : Below w7.heap.size w7 w8)
    (h10 : JoinD C g TS pv jn (left (side ts.tail)) (((((w8.setCell ⟨E, 0, none⟩ (.int .i64 op)).setCell ⟨E, 1, none⟩ (.int .i64 0)).setCell ⟨E, 2, none⟩ (.string ⟨#[]⟩)).setCell ⟨E, 3, none⟩ (.int .i64 0)).setCell ⟨E, 4, none⟩ (.slice (some ⟨K, 0, none⟩) 2 2)) (.returned (.int .i64 oj)) w10) (hj0 : jn [] = 0) (hlv : 0 < ts.tail.length) :
    GrO C g TS pv st jn side E w.heap.size w (.int .i64 oj) w10 ∧ slen (stp jn (left (side ts.tail))) < slen (.ok ts.tail) ∧ Dc w10 C g TS pv (stp jn (left (side ts.tail))) := by
  have hEl := hE6.lt
  have hs7 := ho7.size
  have hs8 := hb8.size
  have hE7 := hE6.only ho7 (by omega)
  have hR7 := hR6.only ho7 (by omega)
  have hX7 := hX6.keep (Keeps.only ho7 (by intro q hq e; have := hq.1; omega))
  have hE8 := hE7.live' hb8
  have hR8 := hR7.live' hb8
  have hD8 := hd7.below hb8
  have hX8 := hX7.keep (Keeps.below hb8 (Nat.le_refl _))
  have hY8 : ∀ y r, side ts.tail = .ok (y, r) → LC (From w6.heap.size) w8 (.agg #[.int .i64 o7, .int .i64 m7, .string s7, .int .i64 u7, .slice a7 n7 c7]) y := fun y r hy => (hx7 y r hy).keep (Keeps.below hb8 (Nat.le_refl _))
  have hp : Only (fun b => b = E) w8 (((((w8.setCell ⟨E, 0, none⟩ (.int .i64 op)).setCell ⟨E, 1, none⟩ (.int .i64 0)).setCell ⟨E, 2, none⟩ (.string ⟨#[]⟩)).setCell ⟨E, 3, none⟩ (.int .i64 0)).setCell ⟨E, 4, none⟩ (.slice (some ⟨K, 0, none⟩) 2 2)) := Only.put5 (Only.refl (fun b => b = E) w8) (.inl rfl) _ _ _ _ _
  have hO9 : Only (· = C) w (((((w8.setCell ⟨E, 0, none⟩ (.int .i64 op)).setCell ⟨E, 1, none⟩ (.int .i64 0)).setCell ⟨E, 2, none⟩ (.string ⟨#[]⟩)).setCell ⟨E, 3, none⟩ (.int .i64 0)).setCell ⟨E, 4, none⟩ (.slice (some ⟨K, 0, none⟩) 2 2)) := Only.put5 ((hO6.trans ho7).trans (Only.of_below hb8)) (R := E) (.inr (by omega)) _ _ _ _ _
  have hbP : Blk (((((w8.setCell ⟨E, 0, none⟩ (.int .i64 op)).setCell ⟨E, 1, none⟩ (.int .i64 0)).setCell ⟨E, 2, none⟩ (.string ⟨#[]⟩)).setCell ⟨E, 3, none⟩ (.int .i64 0)).setCell ⟨E, 4, none⟩ (.slice (some ⟨K, 0, none⟩) 2 2)) E 28 #[.int .i64 op, .int .i64 0, .string ⟨#[]⟩, .int .i64 0, .slice (some ⟨K, 0, none⟩) 2 2] := put5 hE8
  have hD9 := hD8.other hp (show ¬ C = E by omega) (show ¬ g = E by omega)
  have hR9 := hR8.only hp (show ¬ w.heap.size = E by omega)
  have hB9 := hB8.only hp (show ¬ K = E by omega)
  have hX9 := hX8.keep (Keeps.only hp (by intro q hq e; exact hq.2 e))
  have hY9 : ∀ y r, side ts.tail = .ok (y, r) → LC (From w6.heap.size) (((((w8.setCell ⟨E, 0, none⟩ (.int .i64 op)).setCell ⟨E, 1, none⟩ (.int .i64 0)).setCell ⟨E, 2, none⟩ (.string ⟨#[]⟩)).setCell ⟨E, 3, none⟩ (.int .i64 0)).setCell ⟨E, 4, none⟩ (.slice (some ⟨K, 0, none⟩) 2 2)) (.agg #[.int .i64 o7, .int .i64 m7, .string s7, .int .i64 u7, .slice a7 n7 c7]) y := fun y r hy => (hY8 y r hy).keep (Keeps.only hp (by intro q hq e; unfold From at hq; omega))
  generalize (((((w8.setCell ⟨E, 0, none⟩ (.int .i64 op)).setCell ⟨E, 1, none⟩ (.int .i64 0)).setCell ⟨E, 2, none⟩ (.string ⟨#[]⟩)).setCell ⟨E, 3, none⟩ (.int .i64 0)).setCell ⟨E, 4, none⟩ (.slice (some ⟨K, 0, none⟩) 2 2)) = w9 at *
  obtain ⟨he, hd10, ho10⟩ := h10
  injection he with he
  injection he with _ he
  have hs9 := hO9.size
  obtain ⟨f', rfl⟩ : ∃ f', f = f' + 1 := by
    refine ⟨f - 1, ?_⟩
    cases ts with
    | nil => exact absurd hj0 hj
    | cons t r =>
      simp only [List.length_cons] at hf
      omega
  have hmo := P.groupL_more side P.prC f' x hj
  have hE10 := hbP.only ho10 (show ¬ E = C by omega)
  have hR10 := hR9.only ho10 (show ¬ w.heap.size = C by omega)
  have hB10 := hB9.only ho10 (show ¬ K = C by omega)
  have hX10 := hX9.keep (Keeps.only ho10 (by intro q hq e; have := hq.1; omega))
  have hO10 := hO9.trans ho10
  have htl : ts.tail.length + 1 = ts.length := by
    cases ts with
    | nil => exact absurd hj0 hj
    | cons t r => rfl
  cases hsd : side ts.tail with
  | error p =>
    rw [hsd] at hd10 hmo he
    refine ⟨⟨op, 0, ⟨#[]⟩, 0, some ⟨K, 0, none⟩, 2, 2, .error p, by rw [he], hE10, hR10, hd10, hO10, Nat.zero_le _, ?_⟩, ?_, hd10⟩
    · show on st (P.groupF jn side P.prC) = .error p
      rw [hS, hmo]
    · exact hlv
  | ok y =>
    obtain ⟨y, r⟩ := y
    have hy := hY9 y r hsd
    have hl := hL _ _ _ hsd
    rw [hsd] at hd10 hmo he
    have hy10 := LC.mono (Q := From w6.heap.size) (Q' := Sm w.heap.size E) (by
      intro q hq _
      unfold From at hq
      exact ⟨by omega, by omega⟩) _ (hy.keep (Keeps.only ho10 (by intro q hq e; unfold From at hq; omega)))
    refine ⟨⟨op, 0, ⟨#[]⟩, 0, some ⟨K, 0, none⟩, 2, 2, .ok (P.prC op x y, r), by rw [he]; rfl, hE10, hR10, hd10, hO10, ?_, ?_, f', by omega, ?_⟩, ?_, hd10⟩
    · show r.length ≤ slen st
      omega
    · exact lc_two (s := []) ⟨by omega, by omega⟩ hB10 hX10 hy10
    · rw [hS, hmo, hop]
    · show slen (stp jn (.ok r)) < ts.tail.length
      have : slen (stp jn (.ok r)) ≤ r.length := by
        unfold stp
        split
        · exact Nat.le_refl _
        · show r.tail.length ≤ r.length
          rw [List.length_tail]
          omega
      omega
set_option maxHeartbeats 3200000 in
theorem groupO_d (C g : Nat) (TS : List Tok) (pv : Value) (st : Sta) (jn : List Tok → Int) (side : List Tok → P.Res CO) (w : World) (h : Dc w C g TS pv st)
    (hJ : ∀ st w, Dc w C g TS pv st → Calls Tryz.prog 88 #[.pointer (some ⟨C, 0, none⟩)] w (JoinD C g TS pv jn st w))
    (hSd : ∀ st' w, Dc w C g TS pv st' → slen st' ≤ slen st → Calls Tryz.prog 89 #[.pointer (some ⟨C, 0, none⟩)] w (TotD (LC (From w.heap.size)) AnyC C g TS pv (on st' side) w))
    (hL : P.Less side) (hj0 : jn [] = 0) :
    Calls Tryz.prog 87 #[mval 88 C, mval 89 C, .func (.func 90) #[] #[]] w (TotD (LC (From w.heap.size)) AnyC C g TS pv (on st (P.groupF jn side P.prC)) w) := by
  obtain ⟨hCl, hgl⟩ := h.lts
  have HD := Lib.hid h
  have HJ := Lib.hid hJ
  have HS := Lib.hid hSd
  have HL := Lib.hid hL
  have H0 := Lib.hid hj0
  clear h hJ hSd hL hj0
  unfold mval
  go_enter Tryz.func87, Tryz.ntmps87
  go_wp2_with fail
  have HD0 := Lib.hid (HD.out.below (w' := w.alloc (.cells zc 28)) ((Below.refl _ _).alloc (Nat.le_refl _) _))
  have HO0 := Lib.hid ((Only.refl (· = C) w).alloc (.cells zc 28))
  have HB0 := Lib.hid (Blk.new w 28 zc)
  have hsA : w.heap.size < (w.alloc (.cells zc 28)).heap.size := HB0.out.lt
  generalize w.alloc (.cells zc 28) = w0 at *
  have hcall := HS.out st _ HD0.out (Nat.le_refl _)
  with_reducible refine hcall.mono ?_
  rintro e w1 ⟨v, rfl, ⟨o, m, s, u, a, n, c, rfl⟩, hd1, ho1, hx1⟩
  have HB1 := Lib.hid (HB0.out.only ho1 (by omega))
  have HO1 := Lib.hid (HO0.out.trans ho1)
  have hs1 := ho1.size
  have HD1 := Lib.hid hd1
  have HX1 := Lib.hid hx1
  clear hd1 ho1 hx1 hcall
  go_wp2_with fail
  have HD2 := Lib.hid (HD1.out.below (w' := w1.alloc (.cells #[.int .i64 o, .int .i64 m, .string s, .int .i64 u, .slice a n c] 28)) ((Below.refl _ _).alloc (Nat.le_refl _) _))
  have HO2 := Lib.hid (HO1.out.alloc (.cells #[.int .i64 o, .int .i64 m, .string s, .int .i64 u, .slice a n c] 28))
  have HB2 := Lib.hid (HB1.out.alloc (.cells #[.int .i64 o, .int .i64 m, .string s, .int .i64 u, .slice a n c] 28))
  have HE2 := Lib.hid (Blk.new w1 28 #[.int .i64 o, .int .i64 m, .string s, .int .i64 u, .slice a n c])
  have HK2 := Lib.hid (show Keeps (fun _ => True) w1 (w1.alloc (.cells #[.int .i64 o, .int .i64 m, .string s, .int .i64 u, .slice a n c] 28)) from Keeps.below ((Below.refl _ _).alloc (Nat.le_refl _) _) (Nat.le_refl _))
  have hE : w.heap.size < w1.heap.size := by omega
  generalize w1.alloc (.cells #[.int .i64 o, .int .i64 m, .string s, .int .i64 u, .slice a n c] 28) = w2 at *
  have HX2 := Lib.hid (fun x ts hh => LC.keep (w := w1) (w' := w2) (fun q hq hl => HK2.out q trivial hl) _ (LC.mono (Q := From w0.heap.size) (Q' := Sm w.heap.size w1.heap.size) (by intro q hq hl; unfold From at hq; exact ⟨by omega, by omega⟩) _ (HX1.out x ts hh)))
  clear HX1 HK2
  generalize w1.heap.size = E at *
  have hcall := HJ.out _ _ HD2.out
  with_reducible refine hcall.mono ?_
  rintro e w3 ⟨rfl, hd3, ho3⟩
  have HG : Hid (GrO C g TS pv st jn side E w.heap.size w (.int .i64 (onJ jn (left (on st side)))) w3) := by
    refine Lib.hid ⟨o, m, s, u, a, n, c, on st side, rfl, HE2.out.only ho3 (by omega), HB2.out.only ho3 (by omega), hd3, HO2.out.trans ho3, ?_, ?_⟩
    · rcases st with q | tt
      · exact Nat.zero_le _
      · show slen (left (side tt)) ≤ tt.length
        cases hh : side tt with
        | error p => exact Nat.zero_le _
        | ok y =>
          have := HL.out _ _ _ hh
          show y.2.length ≤ _
          omega
    · rcases st with q | tt
      · rfl
      · show (match side tt with
          | .ok (x, ts) => LC (Sm w.heap.size E) w3 (.agg #[.int .i64 o, .int .i64 m, .string s, .int .i64 u, .slice a n c]) x ∧ ∃ f, ts.length ≤ f ∧ P.groupF jn side P.prC tt = P.groupL jn side P.prC f x ts
          | .error q => P.groupF jn side P.prC tt = .error q)
        cases hh : side tt with
        | error p =>
          show P.groupF jn side P.prC tt = .error p
          unfold P.groupF
          rw [hh]
        | ok y =>
          obtain ⟨y, r⟩ := y
          refine ⟨(HX2.out y r hh).keep (Keeps.only ho3 (by intro q hq e; have := hq.1; omega)), r.length, Nat.le_refl _, ?_⟩
          conv => lhs; unfold P.groupF
          rw [hh]
  clear hcall hd3 ho3 HX2 HD2 HO2 HB2 HE2 HD1 HO1 HB1 HD0 HO0 HB0 hs1
  generalize onJ jn (left (on st side)) = oj0 at *
  go_wp2_with fail
  go_loopw [8] (fun t wr => GrO C g TS pv st jn side E w.heap.size w t wr) (fun _ wr => lnAt C wr)
  case atStart => exact HG.out
  case round =>
    obtain ⟨o, m, s, u, a, n, c, r, rfl, hE2, hR2, hd2, ho2, hsl, hcase⟩ := hrel
    have HM0 := Lib.hid hd2.lnAt
    by_cases hz : onJ jn (left r) = 0
    · have hst : stp jn (left r) = left r := by
        unfold stp
        rw [if_pos hz]
      rw [hst] at hd2
      rw [hz]
      have HF := Lib.hid (show left (on st (P.groupF jn side P.prC)) = left r ∧ ∀ x ts, on st (P.groupF jn side P.prC) = .ok (x, ts) → LC (Sm w.heap.size E) wr (.agg #[.int .i64 o, .int .i64 m, .string s, .int .i64 u, .slice a n c]) x by
        rcases r with q | ⟨x, ts⟩
        · have hc : on st (P.groupF jn side P.prC) = .error q := hcase
          rw [hc]
          exact ⟨rfl, fun _ _ hh => by cases hh⟩
        · obtain ⟨hx, f, hf, hq⟩ := hcase
          rw [P.groupL_stop side P.prC f x (show jn ts = 0 from hz)] at hq
          rw [hq]
          exact ⟨rfl, fun _ _ hh => by cases hh; exact hx⟩)
      have HD2 := Lib.hid hd2
      have HR2 := Lib.hid hR2
      have HE2 := Lib.hid hE2
      have HO2 := Lib.hid ho2
      clear hd2 hR2 hE2 ho2 hcase hz hst hsl
      obtain ⟨d0, d1, d2, d3, d4, _, _, _, _, _⟩ := five_free HE2.out
      obtain ⟨e0, e1, e2, e3, e4, f0, f1, f2, f3, f4⟩ := five_free HR2.out
      go_wp2_with fail
      refine bodyPost_ret (results_cell_row (p := 6) rfl _ _ w.heap.size 28 #[.int .i64 o, .int .i64 m, .string s, .int .i64 u, .slice a n c] (0, 0) _ rfl (put5 HR2.out) Tryz.underlying28 rfl (by kernel_rfl)) rfl ?_
      refine ⟨_, rfl, ⟨o, m, s, u, a, n, c, rfl⟩, ?_, Only.put5 HO2.out (.inr (Nat.le_refl _)) _ _ _ _ _, fun x ts hh => ?_⟩
      · rw [HF.out.1]
        exact HD2.out.far5 (by omega) (by omega) _ _ _ _ _
      · exact LC.mono (Q := Sm w.heap.size E) (by intro q hq _; have := hq.1; show w.heap.size ≤ q; omega) _ ((HF.out.2 x ts hh).keep (Keeps.only (S := fun b => b = w.heap.size) (Only.put5 (Only.refl (fun b => b = w.heap.size) _) (.inl rfl) _ _ _ _ _) (by intro q hq e; have := hq.1; omega)))
    · rcases r with q | ⟨x, ts⟩
      · exact absurd rfl hz
      · have hz' : ¬ jn ts = 0 := hz
        have hst : stp jn (left (.ok (x, ts) : P.Res CO)) = .ok ts.tail := by
          show (if jn ts = 0 then _ else _) = _
          rw [if_neg hz']
          rfl
        rw [hst] at hd2 HM0
        obtain ⟨hx, f, hf, hq⟩ := hcase
        have HX := Lib.hid hx
        have HQ := Lib.hid hq
        have HD6 := Lib.hid hd2
        have HR6 := Lib.hid hR2
        have HE6 := Lib.hid hE2
        have HO6 := Lib.hid ho2
        have HZ := Lib.hid hz'
        have hlv : 0 < ts.tail.length := hd2.live
        have hls : ts.length ≤ slen st := hsl
        have hlt : ts.tail.length ≤ ts.length := by rw [List.length_tail]; omega
        have hSd := HS.out (.ok ts.tail) wr.drew HD6.out.drew (show ts.tail.length ≤ slen st by omega)
        have HSd := Lib.hid hSd
        have hne : ((jn ts) != 0) = true := by simpa using hz'
        show Code.wp _ _ _ _ _
        clear hd2 hR2 hE2 ho2 hx hq hz hz' hst hsl hSd
        generalize hJn : onJ jn (left (.ok (x, ts) : P.Res CO)) = op at *
        have hop : op = jn ts := hJn.symm
        have HJn := Lib.hid hop
        rw [← hop] at hne
        clear hJn hop
        obtain ⟨d0, d1, d2, d3, d4, f0, f1, f2, f3, f4⟩ := five_free HE6.out
        have hEl := HE6.out.lt
        go_wp2_with fail
        go_region_with (first | (go_at_call 89; (with_reducible refine HSd.out.mono ?_); rintro e w7 ⟨v7, rfl, ⟨o7, m7, s7, u7, a7, n7, c7, rfl⟩, hd7, ho7, hx7⟩; have hE7 := (HE6.out.only (S := (· = C)) ((Only.refl (· = C) wr).drew) (by omega)).only ho7 (by omega); obtain ⟨p0, p1, p2, p3, p4, r0, r1, r2, r3, r4⟩ := five_free hE7) | (go_at_call 90; (with_reducible refine (condPair_d _ _ _ _ _ _ _ _ _ _ _ _ _ _ _ _).mono ?_); rintro e w8 ⟨K, rfl, hK, hB8, hb8⟩; have hE8 := hE7.live' hb8; obtain ⟨p0, p1, p2, p3, p4, r0, r1, r2, r3, r4⟩ := five_free hE8))
        all_goals
          have HR := Lib.hid (fun oj w10 (h10 : JoinD C g TS pv jn (left (side ts.tail)) (((((w8.setCell ⟨E, 0, none⟩ (.int .i64 op)).setCell ⟨E, 1, none⟩ (.int .i64 0)).setCell ⟨E, 2, none⟩ (.string ⟨#[]⟩)).setCell ⟨E, 3, none⟩ (.int .i64 0)).setCell ⟨E, 4, none⟩ (.slice (some ⟨K, 0, none⟩) 2 2)) (.returned (.int .i64 oj)) w10) => grO_round (f := f) HJn.out HZ.out hls HL.out hCl hgl hE hf HQ.out HO6.out HE6.out HR6.out HX.out hd7 (((Only.refl (· = C) wr).drew).trans ho7) hx7 hK hB8 hb8 h10 H0.out hlv)
          have hs7 := ho7.size
          have hcall := HJ.out (left (side ts.tail)) (((((w8.setCell ⟨E, 0, none⟩ (.int .i64 op)).setCell ⟨E, 1, none⟩ (.int .i64 0)).setCell ⟨E, 2, none⟩ (.string ⟨#[]⟩)).setCell ⟨E, 3, none⟩ (.int .i64 0)).setCell ⟨E, 4, none⟩ (.slice (some ⟨K, 0, none⟩) 2 2)) ((Dc.below (st := left (side ts.tail)) hd7 hb8).far5 (by omega) (by omega) _ _ _ _ _)
          have HCL := Lib.hid hcall
          clear hcall hd7 hx7 hB8 hb8 ho7
          go_wp2_with fail
          with_reducible refine HCL.out.mono ?_
          rintro e w10 ⟨rfl, hd10, ho10⟩
          have HRR := Lib.hid (HR.out _ w10 ⟨rfl, hd10, ho10⟩)
          clear hd10 ho10
          go_wp2_with fail
          go_roundw
          case rel => exact HRR.out.1
          case measure =>
            rw [HRR.out.2.2.lnAt, HM0.out]
            exact HRR.out.2.1
end Go.Proofs.YtgobcflfhabdhaaGreatDoor.Lx
/-
  What has, both and cond of the developers' cursor tell, whatever the state (both and cond: by what one tells).
-/
namespace Go.Proofs.YtgobcflfhabdhaaGreatDoor.Lx
open Go.RowKit
open L (Tok)
open P (EX CO ST)
set_option maxRecDepth 100000
set_option linter.unusedVariables false
set_option linter.unusedSimpArgs false
/-- A name, ==, a number. -/
def hasF (ts : List Tok) : P.Res (List UInt8 × Nat) :=
  match P.pName ts with
  | .error p => .error p
  | .ok (s, r2) =>
    match P.need [61, 61] r2 with
    | .error p => .error p
    | .ok r3 =>
      match P.pNum r3 with
      | .error p => .error p
      | .ok (n, r4) => .ok ((s, n), r4)
theorem has_eq (st : Sta) : left (on st hasF) = left (on (onNeed [61, 61] (left (on st P.pName))) P.pNum) ∧
    ∀ s n ts, on st hasF = .ok ((s, n), ts) → (∃ r, on st P.pName = .ok (s, r)) ∧ on (onNeed [61, 61] (left (on st P.pName))) P.pNum = .ok (n, ts) := by
  rcases st with q | ts
  · exact ⟨rfl, fun _ _ _ hh => by cases hh⟩
  · show left (hasF ts) = left (on (onNeed [61, 61] (left (P.pName ts))) P.pNum) ∧ ∀ s n ts', hasF ts = .ok ((s, n), ts') → (∃ r, P.pName ts = .ok (s, r)) ∧ on (onNeed [61, 61] (left (P.pName ts))) P.pNum = .ok (n, ts')
    unfold hasF
    cases h1 : P.pName ts with
    | error p => exact ⟨rfl, fun _ _ _ hh => by cases hh⟩
    | ok y =>
      obtain ⟨s, r2⟩ := y
      show _ = left (on (P.need [61, 61] r2) P.pNum) ∧ ∀ s' n ts', _ → (∃ r, (.ok (s, r2) : P.Res (List UInt8)) = .ok (s', r)) ∧ on (P.need [61, 61] r2) P.pNum = .ok (n, ts')
      simp only
      cases h2 : P.need [61, 61] r2 with
      | error p => exact ⟨rfl, fun _ _ _ hh => by cases hh⟩
      | ok r3 =>
        show _ = left (P.pNum r3) ∧ ∀ s' n ts', _ → (∃ r, (.ok (s, r2) : P.Res (List UInt8)) = .ok (s', r)) ∧ P.pNum r3 = .ok (n, ts')
        simp only
        cases h3 : P.pNum r3 with
        | error p => exact ⟨rfl, fun _ _ _ hh => by cases hh⟩
        | ok z =>
          obtain ⟨n, r4⟩ := z
          exact ⟨rfl, fun _ _ _ hh => by cases hh; exact ⟨⟨r2, rfl⟩, rfl⟩⟩
def HasD (B : Nat) (v0 v1 v4 : Value) (C g : Nat) (TS : List Tok) (pv : Value) (r : P.Res (List UInt8 × Nat)) (w : World) (e : Ending) (w' : World) : Prop :=
  ∃ (s : ByteArray) (n : Int), e = .returned (.tuple #[]) ∧ Blk w' B 28 #[v0, v1, .string s, .int .i64 n, v4] ∧ Dc w' C g TS pv (left r) ∧ Only (fun b => b = C ∨ b = B) w w' ∧ ∀ s' n' ts, r = .ok ((s', n'), ts) → s = bs s' ∧ n = (n' : Nat)
theorem Only.mono {S S' : Nat → Prop} {w w' : World} (h : Only S w w') (hs : ∀ k, S k → S' k) : Only S' w w' := ⟨h.os, h.tape, h.output, h.size, fun k hk hn => h.block k hk fun e => hn (hs k e)⟩
set_option maxHeartbeats 1600000 in
theorem has_d (B : Nat) (v0 v1 v2 v3 v4 : Value) (C g : Nat) (TS : List Tok) (pv : Value) (st : Sta) (w : World) (h : Dc w C g TS pv st) (hB : Blk w B 28 #[v0, v1, v2, v3, v4]) (hBC : B ≠ C) (hBg : B ≠ g) :
    Calls Tryz.prog 130 #[.pointer (some ⟨C, 0, none⟩), .pointer (some ⟨B, 0, none⟩)] w (HasD B v0 v1 v4 C g TS pv (on st hasF) w) := by
  obtain ⟨hCl, hgl⟩ := h.lts
  have HD := Lib.hid h
  have HB := Lib.hid hB
  have HE := Lib.hid (has_eq st)
  clear h hB
  go_enter Tryz.func130, Tryz.ntmps130
  go_wp2_with fail
  with_reducible refine (name_d C g TS pv st _ HD.out).mono ?_
  rintro e w1 ⟨t, rfl, hd1, ho1, ht1⟩
  have HT1 := Lib.hid ht1
  have HD1 := Lib.hid hd1
  have HB1 := Lib.hid (HB.out.only ho1 hBC)
  have HO1 := Lib.hid (ho1.mono (S' := fun b => b = C ∨ b = B) fun k hk => .inl hk)
  clear hd1 ho1 ht1
  obtain ⟨tk, tx, tn, ta⟩ := t
  rw [tokV]
  have q1 := fun w => tf1 (.int .i64 tk) (.string (bs tx)) (.int .i64 tn) (.int .i64 ta) w
  generalize hX : bs tx = X at *
  obtain ⟨c0, c1, c2, c3, c4, f0, f1, f2, f3, f4⟩ := five_free HB1.out
  go_wp2_with fail
  have HB2 := Lib.hid (HB1.out.set 2 (.string X))
  have HD2 := Lib.hid (HD1.out.other (S := fun b => b = B) ((Only.refl (fun b => b = B) w1).setCell (p := ⟨B, 2, none⟩) (.inl rfl) (.string X)) (fun e => hBC e.symm) (fun e => hBg e.symm))
  have HO2 := Lib.hid (HO1.out.setCell (p := ⟨B, 2, none⟩) (.inl (.inr rfl)) (.string X))
  clear c0 c1 c2 c3 c4 f0 f1 f2 f3 f4
  generalize w1.setCell ⟨B, 2, none⟩ (.string X) = w2 at *
  with_reducible refine (want_d C g TS pv _ ⟨#[61, 61]⟩ _ HD2.out (by decide)).mono ?_
  rintro e w3 ⟨rfl, hd3, ho3⟩
  have HD3 := Lib.hid hd3
  have HB3 := Lib.hid (HB2.out.only ho3 hBC)
  have HO3 := Lib.hid (HO2.out.trans (ho3.mono (S' := fun b => b = C ∨ b = B) fun k hk => .inl hk))
  clear hd3 ho3
  go_wp2_with fail
  with_reducible refine (number_d C g TS pv _ _ HD3.out).mono ?_
  rintro e w4 ⟨t, rfl, hd4, ho4, ht4⟩
  have HT4 := Lib.hid ht4
  have HD4 := Lib.hid hd4
  have HB4 := Lib.hid (HB3.out.only ho4 hBC)
  have HO4 := Lib.hid (HO3.out.trans (ho4.mono (S' := fun b => b = C ∨ b = B) fun k hk => .inl hk))
  clear hd4 ho4 ht4
  obtain ⟨uk, ux, un, ua⟩ := t
  rw [tokV]
  have q2 := fun w => tf2 (.int .i64 uk) (.string (bs ux)) (.int .i64 un) (.int .i64 ua) w
  generalize bs ux = Y at *
  have HB4' : Hid (Blk w4 B 28 #[v0, v1, .string X, v3, v4]) := Lib.hid HB4.out
  obtain ⟨c0, c1, c2, c3, c4, f0, f1, f2, f3, f4⟩ := five_free HB4'.out
  go_wp2_with fail
  go_end0
  refine ⟨X, un, rfl, HB4'.out.set 3 _, ?_, HO4.out.setCell (p := ⟨B, 3, none⟩) (.inl (.inr rfl)) _, fun s' n' ts hh => ?_⟩
  · rw [HE.out.1]
    exact HD4.out.other (S := fun b => b = B) ((Only.refl (fun b => b = B) w4).setCell (p := ⟨B, 3, none⟩) (.inl rfl) _) (fun e => hBC e.symm) (fun e => hBg e.symm)
  · obtain ⟨⟨r, h1⟩, h2⟩ := HE.out.2 s' n' ts hh
    have e1 := HT1.out s' r h1
    have e2 := HT4.out n' ts h2
    exact ⟨by rw [← hX]; exact congrArg bs e1, by rw [← e2]⟩
set_option maxHeartbeats 800000 in
theorem both_d (C g : Nat) (TS : List Tok) (pv : Value) (st : Sta) (one : List Tok → P.Res CO) (w : World) (h : Dc w C g TS pv st) (hl : P.Less one)
    (hr : ∀ st' w, Dc w C g TS pv st' → slen st' ≤ slen st → Calls Tryz.prog 109 #[.pointer (some ⟨C, 0, none⟩)] w (TotD (LC (From w.heap.size)) AnyC C g TS pv (on st' one) w)) :
    Calls Tryz.prog 89 #[.pointer (some ⟨C, 0, none⟩)] w (TotD (LC (From w.heap.size)) AnyC C g TS pv (on st (P.bothF one)) w) := by
  obtain ⟨hCl, hgl⟩ := h.lts
  have HD := Lib.hid h
  have HE := Lib.hid (on_congr (P.manyF_group one [97, 110, 100] 4 (by decide)) st)
  have HG := Lib.hid (fun w h => groupA_d C g TS pv st (P.jWord [97, 110, 100] 4) one w h (fun st w h => ands_d C g TS pv st w h) (fun st' w h hs => hr st' w h hs) hl rfl)
  clear h hr hl
  go_enter Tryz.func89, Tryz.ntmps89
  go_wp2_with fail
  have HD0 := Lib.hid (HD.out.below (w' := w.alloc (.cells zc 28)) ((Below.refl _ _).alloc (Nat.le_refl _) _))
  have HO0 := Lib.hid ((Only.refl (· = C) w).alloc (.cells zc 28))
  have HB0 := Lib.hid (Blk.new w 28 zc)
  generalize w.alloc (.cells zc 28) = w0 at *
  have hcall := HG.out _ HD0.out
  with_reducible refine hcall.mono ?_
  rintro e w1 ⟨v1, rfl, ⟨o, m, s, u, a, n, c, rfl⟩, hd1, ho1, hx1⟩
  have HD1 := Lib.hid hd1
  have HX1 := Lib.hid hx1
  have HO1 := Lib.hid (HO0.out.trans ho1)
  have HB1 := Lib.hid (HB0.out.only ho1 (by omega))
  have h0l := HB0.out.lt
  clear hd1 hx1 ho1 hcall
  obtain ⟨c0, c1, c2, c3, c4, f0, f1, f2, f3, f4⟩ := five_free HB1.out
  go_wp2_with fail
  refine bodyPost_ret (results_cell_row (p := 2) rfl _ _ w.heap.size 28 #[.int .i64 o, .int .i64 m, .string s, .int .i64 u, .slice a n c] (0, 0) _ rfl (put5 HB1.out) Tryz.underlying28 rfl (by kernel_rfl)) rfl ?_
  rw [show on st (P.bothF one) = _ from HE.out]
  refine ⟨_, rfl, ⟨_, _, _, _, _, _, _, rfl⟩, HD1.out.far5 (by omega) (by omega) _ _ _ _ _, Only.put5 HO1.out (.inr (Nat.le_refl _)) _ _ _ _ _, fun x ts hh => ?_⟩
  exact LC.mono (Q := From w0.heap.size) (by intro q hq _; unfold From at hq ⊢; omega) _ ((HX1.out x ts hh).keep (Keeps.only (S := fun b => b = w.heap.size) (Only.put5 (Only.refl (fun b => b = w.heap.size) _) (.inl rfl) _ _ _ _ _) (by intro q hq e; unfold From at hq; omega)))
set_option maxHeartbeats 800000 in
theorem cond_d (C g : Nat) (TS : List Tok) (pv : Value) (st : Sta) (one : List Tok → P.Res CO) (w : World) (h : Dc w C g TS pv st) (hl : P.Less one)
    (hr : ∀ st' w, Dc w C g TS pv st' → slen st' ≤ slen st → Calls Tryz.prog 109 #[.pointer (some ⟨C, 0, none⟩)] w (TotD (LC (From w.heap.size)) AnyC C g TS pv (on st' one) w)) :
    Calls Tryz.prog 58 #[.pointer (some ⟨C, 0, none⟩)] w (TotD (LC (From w.heap.size)) AnyC C g TS pv (on st (P.condF one)) w) := by
  obtain ⟨hCl, hgl⟩ := h.lts
  have HD := Lib.hid h
  have HE := Lib.hid (on_congr (P.manyF_group (P.bothF one) [111, 114] 5 (by decide)) st)
  have HG := Lib.hid (fun w h => groupO_d C g TS pv st (P.jWord [111, 114] 5) (P.bothF one) w h (fun st w h => ors_d C g TS pv st w h) (fun st' w h hs => both_d C g TS pv st' one w h hl fun st'' w h hs' => hr st'' w h (by omega)) (P.bothF_less hl) rfl)
  clear h hr hl
  go_enter Tryz.func58, Tryz.ntmps58
  go_wp2_with fail
  have HD0 := Lib.hid (HD.out.below (w' := w.alloc (.cells zc 28)) ((Below.refl _ _).alloc (Nat.le_refl _) _))
  have HO0 := Lib.hid ((Only.refl (· = C) w).alloc (.cells zc 28))
  have HB0 := Lib.hid (Blk.new w 28 zc)
  generalize w.alloc (.cells zc 28) = w0 at *
  have hcall := HG.out _ HD0.out
  with_reducible refine hcall.mono ?_
  rintro e w1 ⟨v1, rfl, ⟨o, m, s, u, a, n, c, rfl⟩, hd1, ho1, hx1⟩
  have HD1 := Lib.hid hd1
  have HX1 := Lib.hid hx1
  have HO1 := Lib.hid (HO0.out.trans ho1)
  have HB1 := Lib.hid (HB0.out.only ho1 (by omega))
  have h0l := HB0.out.lt
  clear hd1 hx1 ho1 hcall
  obtain ⟨c0, c1, c2, c3, c4, f0, f1, f2, f3, f4⟩ := five_free HB1.out
  go_wp2_with fail
  refine bodyPost_ret (results_cell_row (p := 2) rfl _ _ w.heap.size 28 #[.int .i64 o, .int .i64 m, .string s, .int .i64 u, .slice a n c] (0, 0) _ rfl (put5 HB1.out) Tryz.underlying28 rfl (by kernel_rfl)) rfl ?_
  rw [show on st (P.condF one) = _ from HE.out]
  refine ⟨_, rfl, ⟨_, _, _, _, _, _, _, rfl⟩, HD1.out.far5 (by omega) (by omega) _ _ _ _ _, Only.put5 HO1.out (.inr (Nat.le_refl _)) _ _ _ _ _, fun x ts hh => ?_⟩
  exact LC.mono (Q := From w0.heap.size) (by intro q hq _; unfold From at hq ⊢; omega) _ ((HX1.out x ts hh).keep (Keeps.only (S := fun b => b = w.heap.size) (Only.put5 (Only.refl (fun b => b = w.heap.size) _) (.inl rfl) _ _ _ _ _) (by intro q hq e; unfold From at hq; omega)))
end Go.Proofs.YtgobcflfhabdhaaGreatDoor.Lx
/-
  What one of the developers' cursor tells, whatever the state; cond by the plain reader.
-/
namespace Go.Proofs.YtgobcflfhabdhaaGreatDoor.Lx
open Go.RowKit
open L (Tok)
open P (EX CO ST)
set_option maxRecDepth 100000
set_option linter.unusedVariables false
set_option linter.unusedSimpArgs false
theorem one_not_eq {n : Nat} {st : Sta} (h : onIs [110, 111, 116] st = true) : left (on st (P.oneN (n + 1))) = left (on (tl st) (P.oneN n)) ∧ ∀ x ts, on st (P.oneN (n + 1)) = .ok (x, ts) → ∃ y, on (tl st) (P.oneN n) = .ok (y, ts) ∧ x = .mk 3 0 [] 0 [y] := by
  obtain ⟨t, r, rfl, _⟩ := onIs_live h
  show left (P.oneN (n + 1) (t :: r)) = left (P.oneN n r) ∧ ∀ x ts, P.oneN (n + 1) (t :: r) = .ok (x, ts) → ∃ y, P.oneN n r = .ok (y, ts) ∧ x = .mk 3 0 [] 0 [y]
  rw [P.oneN, if_pos (show P.isS [110, 111, 116] (t :: r) = true from h)]
  simp only [List.tail_cons]
  cases P.oneN n r with
  | error p => exact ⟨rfl, fun _ _ hh => by cases hh⟩
  | ok y => exact ⟨rfl, fun _ _ hh => by cases hh; exact ⟨y.1, rfl, rfl⟩⟩
theorem one_open_eq {n : Nat} {st : Sta} (h0 : onIs [110, 111, 116] st = false) (h : onIs [40] st = true) : left (on st (P.oneN (n + 1))) = onNeed [41] (left (on (tl st) (P.condF (P.oneN n)))) ∧ ∀ x ts, on st (P.oneN (n + 1)) = .ok (x, ts) → ∃ r, on (tl st) (P.condF (P.oneN n)) = .ok (x, r) := by
  obtain ⟨t, r, rfl, _⟩ := onIs_live h
  show left (P.oneN (n + 1) (t :: r)) = onNeed [41] (left (P.condF (P.oneN n) r)) ∧ ∀ x ts, P.oneN (n + 1) (t :: r) = .ok (x, ts) → ∃ r', P.condF (P.oneN n) r = .ok (x, r')
  rw [P.oneN, if_neg (by rw [show P.isS [110, 111, 116] (t :: r) = false from h0]; decide), if_pos (show P.isS [40] (t :: r) = true from h)]
  simp only [List.tail_cons]
  cases P.condF (P.oneN n) r with
  | error p => exact ⟨rfl, fun _ _ hh => by cases hh⟩
  | ok y =>
    obtain ⟨y, u⟩ := y
    simp only
    cases h5 : P.need [41] u with
    | error q => exact ⟨by show _ = P.need [41] u; rw [h5]; rfl, fun _ _ hh => by cases hh⟩
    | ok u' => exact ⟨by show _ = P.need [41] u; rw [h5]; rfl, fun _ _ hh => by cases hh; exact ⟨u, rfl⟩⟩
theorem one_lit {n : Nat} {st : Sta} (h0 : onIs [110, 111, 116] st = false) (h1 : onIs [40] st = false) : on st (P.oneN (n + 1)) = on st P.litF := by
  rcases st with q | ts
  · rfl
  · show P.oneN (n + 1) ts = P.litF ts
    rw [P.oneN, if_neg (by rw [show P.isS [110, 111, 116] ts = false from h0]; decide), if_neg (by rw [show P.isS [40] ts = false from h1]; decide)]
theorem lit_num_eq {st : Sta} (h : onD st = true) : left (on st P.litF) = left (on (onNeed [58] (left (on st P.pNum))) hasF) ∧
    ∀ x ts, on st P.litF = .ok (x, ts) → ∃ k s n r, on st P.pNum = .ok (k, r) ∧ on (onNeed [58] (left (on st P.pNum))) hasF = .ok ((s, n), ts) ∧ x = .mk 2 k s n [] := by
  obtain ⟨t, r, rfl, hn⟩ := on_num h
  have hn' : P.pNum (t :: r) = .ok (t.n, r) := hn
  rw [hn]
  show left (P.litF (t :: r)) = left (on (P.need [58] r) hasF) ∧ ∀ x ts, P.litF (t :: r) = .ok (x, ts) → ∃ k s n r', (.ok (t.n, r) : P.Res Nat) = .ok (k, r') ∧ on (P.need [58] r) hasF = .ok ((s, n), ts) ∧ x = .mk 2 k s n []
  unfold P.litF
  rw [hn']
  simp only
  cases h1 : P.need [58] r with
  | error p => exact ⟨rfl, fun _ _ hh => by cases hh⟩
  | ok r1 =>
    show _ = left (hasF r1) ∧ ∀ x ts, _ → ∃ k s n r', _ ∧ hasF r1 = .ok ((s, n), ts) ∧ _
    unfold hasF
    simp only
    cases h2 : P.pName r1 with
    | error p => exact ⟨rfl, fun _ _ hh => by cases hh⟩
    | ok y =>
      obtain ⟨s, r2⟩ := y
      simp only
      cases h3 : P.need [61, 61] r2 with
      | error p => exact ⟨rfl, fun _ _ hh => by cases hh⟩
      | ok r3 =>
        simp only
        cases h4 : P.pNum r3 with
        | error p => exact ⟨rfl, fun _ _ hh => by cases hh⟩
        | ok z =>
          obtain ⟨n, r4⟩ := z
          exact ⟨rfl, fun _ _ hh => by cases hh; exact ⟨t.n, s, n, r, rfl, rfl, rfl⟩⟩
theorem lit_name_eq {st : Sta} (h : onD st = false) : left (on st P.litF) = left (on st hasF) ∧ ∀ x ts, on st P.litF = .ok (x, ts) → ∃ s n, on st hasF = .ok ((s, n), ts) ∧ x = .mk 1 0 s n [] := by
  rcases st with q | ts
  · exact ⟨rfl, fun _ _ hh => by cases hh⟩
  · obtain ⟨p, hp⟩ := on_num_no (ts := ts) h
    show left (P.litF ts) = left (hasF ts) ∧ ∀ x ts', P.litF ts = .ok (x, ts') → ∃ s n, hasF ts = .ok ((s, n), ts') ∧ x = .mk 1 0 s n []
    unfold P.litF hasF
    rw [hp]
    simp only
    cases h2 : P.pName ts with
    | error p => exact ⟨rfl, fun _ _ hh => by cases hh⟩
    | ok y =>
      obtain ⟨s, r2⟩ := y
      simp only
      cases h3 : P.need [61, 61] r2 with
      | error p => exact ⟨rfl, fun _ _ hh => by cases hh⟩
      | ok r3 =>
        simp only
        cases h4 : P.pNum r3 with
        | error p => exact ⟨rfl, fun _ _ hh => by cases hh⟩
        | ok z =>
          obtain ⟨n, r4⟩ := z
          exact ⟨rfl, fun _ _ hh => by cases hh; exact ⟨s, n, rfl, rfl⟩⟩
set_option maxHeartbeats 1600000 in
theorem one_lit_d (C g : Nat) (TS : List Tok) (pv : Value) (st : Sta) (w : World) (h : Dc w C g TS pv st) (h0 : onIs [110, 111, 116] st = false) (h1 : onIs [40] st = false) :
    Calls Tryz.prog 109 #[.pointer (some ⟨C, 0, none⟩)] w (TotD (LC (From w.heap.size)) AnyC C g TS pv (on st P.litF) w) := by
  obtain ⟨hCl, hgl⟩ := h.lts
  have HD := Lib.hid h
  have H0 := Lib.hid h0
  have H1 := Lib.hid h1
  clear h h0 h1
  cases hd : onD st with
  | true =>
    have HON := Lib.hid hd
    have HA := Lib.hid (lit_num_eq hd)
    clear hd
    go_enter Tryz.func109, Tryz.ntmps109
    go_wp2_with fail
    have HD0 := Lib.hid (HD.out.below (w' := w.alloc (.cells zc 28)) ((Below.refl _ _).alloc (Nat.le_refl _) _))
    have HO0 := Lib.hid ((Only.refl (· = C) w).alloc (.cells zc 28))
    have HB0 := Lib.hid (Blk.new w 28 zc)
    generalize w.alloc (.cells zc 28) = w0 at *
    with_reducible refine (pass_d C g TS pv st ⟨#[110, 111, 116]⟩ _ HD0.out (by decide)).mono ?_
    rintro e w1 ⟨rfl, hd1, ho1⟩
    rw [show by' (⟨#[110, 111, 116]⟩ : ByteArray) = [110, 111, 116] from rfl, H0.out] at hd1 ⊢
    have HD1 : Hid (Dc w1 C g TS pv st) := Lib.hid hd1
    have HO1 := Lib.hid (HO0.out.trans ho1)
    have HB1 := Lib.hid (HB0.out.only ho1 (by omega))
    clear hd1 ho1
    go_wp2_with fail
    with_reducible refine (pass_d C g TS pv st ⟨#[40]⟩ _ HD1.out (by decide)).mono ?_
    rintro e w2 ⟨rfl, hd2, ho2⟩
    rw [show by' (⟨#[40]⟩ : ByteArray) = [40] from rfl, H1.out] at hd2 ⊢
    have HD2 : Hid (Dc w2 C g TS pv st) := Lib.hid hd2
    have HO2 := Lib.hid (HO1.out.trans ho2)
    have HB2 := Lib.hid (HB1.out.only ho2 (by omega))
    clear hd2 ho2
    go_wp2_with fail
    with_reducible refine (atNumber_d C g TS pv st _ HD2.out).mono ?_
    rintro e w3 ⟨rfl, hb3⟩
    rw [HON.out]
    have HD3 := Lib.hid (HD2.out.below hb3)
    have HO3 := Lib.hid (HO2.out.trans (Only.of_below hb3))
    have HB3 := Lib.hid (HB2.out.live' hb3)
    clear hb3
    go_wp2_with fail
    with_reducible refine (number_d C g TS pv st _ HD3.out).mono ?_
    rintro e w4 ⟨t, rfl, hd4, ho4, ht4⟩
    have HT4 := Lib.hid ht4
    have HD4 := Lib.hid hd4
    have HO4 := Lib.hid (HO3.out.trans ho4)
    have HB4 := Lib.hid (HB3.out.only ho4 (by omega))
    clear hd4 ho4 ht4
    obtain ⟨tk, tx, tn, ta⟩ := t
    rw [tokV]
    have q2 := fun w => tf2 (.int .i64 tk) (.string (bs tx)) (.int .i64 tn) (.int .i64 ta) w
    generalize bs tx = X at *
    go_wp2_with fail
    have hb5 : Below w4.heap.size w4 (w4.alloc (.cells #[.int .i64 2, .int .i64 tn, .string ⟨#[]⟩, .int .i64 0, .slice none 0 0] 28)) := (Below.refl _ _).alloc (Nat.le_refl _) _
    have HE5 := Lib.hid (Blk.new w4 28 #[.int .i64 2, .int .i64 tn, .string ⟨#[]⟩, .int .i64 0, .slice none 0 0])
    have HD5 := Lib.hid (HD4.out.below hb5)
    have HO5 := Lib.hid (HO4.out.trans (Only.of_below hb5))
    have HB5 := Lib.hid (HB4.out.live' hb5)
    have h4l := HB4.out.lt
    clear hb5
    generalize w4.alloc (.cells #[.int .i64 2, .int .i64 tn, .string ⟨#[]⟩, .int .i64 0, .slice none 0 0] 28) = w5 at *
    generalize w4.heap.size = E at *
    with_reducible refine (want_d C g TS pv _ ⟨#[58]⟩ _ HD5.out (by decide)).mono ?_
    rintro e w6 ⟨rfl, hd6, ho6⟩
    have HD6 := Lib.hid hd6
    have HO6 := Lib.hid (HO5.out.trans ho6)
    have HB6 := Lib.hid (HB5.out.only ho6 (by omega))
    have HE6 := Lib.hid (HE5.out.only ho6 (by omega))
    clear hd6 ho6
    go_wp2_with fail
    with_reducible refine (has_d E _ _ _ _ _ C g TS pv _ _ HD6.out HE6.out (by omega) (by omega)).mono ?_
    rintro e w7 ⟨s7, n7, rfl, hE7, hd7, ho7, hv7⟩
    have HD7 := Lib.hid hd7
    have HB7 := Lib.hid (HB6.out.only ho7 (by omega))
    have HE7 := Lib.hid hE7
    have HV7 := Lib.hid hv7
    have HO7 := Lib.hid (show Only (· = C) w w7 from ⟨ho7.os.trans HO6.out.os, ho7.tape.trans HO6.out.tape, ho7.output.trans HO6.out.output, Nat.le_trans HO6.out.size ho7.size, fun k hk hs => (ho7.block k (Nat.lt_of_lt_of_le hk HO6.out.size) (by omega)).trans (HO6.out.block k hk hs)⟩)
    clear hd7 hE7 hv7 ho7
    obtain ⟨c0, c1, c2, c3, c4, f0, f1, f2, f3, f4⟩ := five_free HB7.out
    obtain ⟨d0, d1, d2, d3, d4, _, _, _, _, _⟩ := five_free HE7.out
    go_wp2_with fail
    refine bodyPost_ret (results_cell_row (p := 2) rfl _ _ w.heap.size 28 #[.int .i64 2, .int .i64 tn, .string s7, .int .i64 n7, .slice none 0 0] (0, 0) _ rfl (put5 HB7.out) Tryz.underlying28 rfl (by kernel_rfl)) rfl ?_
    refine ⟨_, rfl, ⟨_, _, _, _, _, _, _, rfl⟩, ?_, Only.put5 HO7.out (.inr (Nat.le_refl _)) _ _ _ _ _, fun x ts hh => ?_⟩
    · rw [HA.out.1]
      exact HD7.out.far5 (by omega) (by omega) _ _ _ _ _
    · obtain ⟨k, s, n, r, hk, hs, rfl⟩ := HA.out.2 x ts hh
      obtain ⟨rfl, rfl⟩ := HV7.out s n ts hs
      have hk' : tn = k := HT4.out k r hk
      rw [hk']
      exact lc_leaf _ _ _ _ _ _ _ _
  | false =>
    have HON := Lib.hid hd
    have HA := Lib.hid (lit_name_eq hd)
    clear hd
    go_enter Tryz.func109, Tryz.ntmps109
    go_wp2_with fail
    have HD0 := Lib.hid (HD.out.below (w' := w.alloc (.cells zc 28)) ((Below.refl _ _).alloc (Nat.le_refl _) _))
    have HO0 := Lib.hid ((Only.refl (· = C) w).alloc (.cells zc 28))
    have HB0 := Lib.hid (Blk.new w 28 zc)
    generalize w.alloc (.cells zc 28) = w0 at *
    with_reducible refine (pass_d C g TS pv st ⟨#[110, 111, 116]⟩ _ HD0.out (by decide)).mono ?_
    rintro e w1 ⟨rfl, hd1, ho1⟩
    rw [show by' (⟨#[110, 111, 116]⟩ : ByteArray) = [110, 111, 116] from rfl, H0.out] at hd1 ⊢
    have HD1 : Hid (Dc w1 C g TS pv st) := Lib.hid hd1
    have HO1 := Lib.hid (HO0.out.trans ho1)
    have HB1 := Lib.hid (HB0.out.only ho1 (by omega))
    clear hd1 ho1
    go_wp2_with fail
    with_reducible refine (pass_d C g TS pv st ⟨#[40]⟩ _ HD1.out (by decide)).mono ?_
    rintro e w2 ⟨rfl, hd2, ho2⟩
    rw [show by' (⟨#[40]⟩ : ByteArray) = [40] from rfl, H1.out] at hd2 ⊢
    have HD2 : Hid (Dc w2 C g TS pv st) := Lib.hid hd2
    have HO2 := Lib.hid (HO1.out.trans ho2)
    have HB2 := Lib.hid (HB1.out.only ho2 (by omega))
    clear hd2 ho2
    go_wp2_with fail
    with_reducible refine (atNumber_d C g TS pv st _ HD2.out).mono ?_
    rintro e w3 ⟨rfl, hb3⟩
    rw [HON.out]
    have HD3 := Lib.hid (HD2.out.below hb3)
    have HO3 := Lib.hid (HO2.out.trans (Only.of_below hb3))
    have HB3 := Lib.hid (HB2.out.live' hb3)
    clear hb3
    go_wp2_with fail
    have hb5 : Below w3.heap.size w3 (w3.alloc (.cells #[.int .i64 1, .int .i64 0, .string ⟨#[]⟩, .int .i64 0, .slice none 0 0] 28)) := (Below.refl _ _).alloc (Nat.le_refl _) _
    have HE5 := Lib.hid (Blk.new w3 28 #[.int .i64 1, .int .i64 0, .string ⟨#[]⟩, .int .i64 0, .slice none 0 0])
    have HD5 := Lib.hid (HD3.out.below hb5)
    have HO5 := Lib.hid (HO3.out.trans (Only.of_below hb5))
    have HB5 := Lib.hid (HB3.out.live' hb5)
    have h4l := HB3.out.lt
    clear hb5
    generalize w3.alloc (.cells #[.int .i64 1, .int .i64 0, .string ⟨#[]⟩, .int .i64 0, .slice none 0 0] 28) = w5 at *
    generalize w3.heap.size = E at *
    with_reducible refine (has_d E _ _ _ _ _ C g TS pv _ _ HD5.out HE5.out (by omega) (by omega)).mono ?_
    rintro e w7 ⟨s7, n7, rfl, hE7, hd7, ho7, hv7⟩
    have HD7 := Lib.hid hd7
    have HB7 := Lib.hid (HB5.out.only ho7 (by omega))
    have HE7 := Lib.hid hE7
    have HV7 := Lib.hid hv7
    have HO7 := Lib.hid (show Only (· = C) w w7 from ⟨ho7.os.trans HO5.out.os, ho7.tape.trans HO5.out.tape, ho7.output.trans HO5.out.output, Nat.le_trans HO5.out.size ho7.size, fun k hk hs => (ho7.block k (Nat.lt_of_lt_of_le hk HO5.out.size) (by omega)).trans (HO5.out.block k hk hs)⟩)
    clear hd7 hE7 hv7 ho7
    obtain ⟨c0, c1, c2, c3, c4, f0, f1, f2, f3, f4⟩ := five_free HB7.out
    obtain ⟨d0, d1, d2, d3, d4, _, _, _, _, _⟩ := five_free HE7.out
    go_wp2_with fail
    refine bodyPost_ret (results_cell_row (p := 2) rfl _ _ w.heap.size 28 #[.int .i64 1, .int .i64 0, .string s7, .int .i64 n7, .slice none 0 0] (0, 0) _ rfl (put5 HB7.out) Tryz.underlying28 rfl (by kernel_rfl)) rfl ?_
    refine ⟨_, rfl, ⟨_, _, _, _, _, _, _, rfl⟩, ?_, Only.put5 HO7.out (.inr (Nat.le_refl _)) _ _ _ _ _, fun x ts hh => ?_⟩
    · rw [HA.out.1]
      exact HD7.out.far5 (by omega) (by omega) _ _ _ _ _
    · obtain ⟨s, n, hs, rfl⟩ := HA.out.2 x ts hh
      obtain ⟨rfl, rfl⟩ := HV7.out s n ts hs
      exact lc_leaf _ _ _ _ _ _ _ _
set_option maxHeartbeats 1600000 in
theorem one_d (n : Nat) (C g : Nat) (TS : List Tok) (pv : Value) (st : Sta) (w : World) (h : Dc w C g TS pv st)
    (hr : ∀ st' w, Dc w C g TS pv st' → slen st' < slen st → Calls Tryz.prog 109 #[.pointer (some ⟨C, 0, none⟩)] w (TotD (LC (From w.heap.size)) AnyC C g TS pv (on st' (P.oneN n)) w)) :
    Calls Tryz.prog 109 #[.pointer (some ⟨C, 0, none⟩)] w (TotD (LC (From w.heap.size)) AnyC C g TS pv (on st (P.oneN (n + 1))) w) := by
  cases hn : onIs [110, 111, 116] st with
  | true =>
    obtain ⟨hCl, hgl⟩ := h.lts
    have HD := Lib.hid h
    have HR := Lib.hid hr
    have HA := Lib.hid (one_not_eq (n := n) hn)
    have HP := Lib.hid hn
    obtain ⟨t0, r0, hst, _⟩ := onIs_live hn
    have hsl : slen (tl st) < slen st := by
      rw [hst]
      show r0.length < r0.length + 1
      omega
    clear h hr hn hst
    go_enter Tryz.func109, Tryz.ntmps109
    go_wp2_with fail
    have HD0 := Lib.hid (HD.out.below (w' := w.alloc (.cells zc 28)) ((Below.refl _ _).alloc (Nat.le_refl _) _))
    have HO0 := Lib.hid ((Only.refl (· = C) w).alloc (.cells zc 28))
    have HB0 := Lib.hid (Blk.new w 28 zc)
    generalize w.alloc (.cells zc 28) = w0 at *
    with_reducible refine (pass_d C g TS pv st ⟨#[110, 111, 116]⟩ _ HD0.out (by decide)).mono ?_
    rintro e w1 ⟨rfl, hd1, ho1⟩
    rw [show by' (⟨#[110, 111, 116]⟩ : ByteArray) = [110, 111, 116] from rfl, HP.out] at hd1 ⊢
    have HD1 : Hid (Dc w1 C g TS pv (tl st)) := Lib.hid hd1
    have HO1 := Lib.hid (HO0.out.trans ho1)
    have HB1 := Lib.hid (HB0.out.only ho1 (by omega))
    clear hd1 ho1
    go_wp2_with fail
    have hcall := HR.out (tl st) _ HD1.out hsl
    with_reducible refine hcall.mono ?_
    rintro e w3 ⟨v3, rfl, ⟨o, m, s, u, a, n, c, rfl⟩, hd3, ho3, hx3⟩
    have HD3 := Lib.hid hd3
    have HX3 := Lib.hid hx3
    have HO3 := Lib.hid (HO1.out.trans ho3)
    have HB3 := Lib.hid (HB1.out.only ho3 (by omega))
    have h23 := ho3.size
    have h2l := HB1.out.lt
    clear hd3 ho3 hx3 hcall
    obtain ⟨c0, c1, c2, c3, c4, f0, f1, f2, f3, f4⟩ := five_free HB3.out
    have hRl : w.heap.size < w3.heap.size := HB3.out.lt
    go_wp2_with fail
    have hp : Only (fun b => b = w.heap.size) w3 (((((w3.setCell ⟨w.heap.size, 0, none⟩ (.int .i64 3)).setCell ⟨w.heap.size, 1, none⟩ (.int .i64 0)).setCell ⟨w.heap.size, 2, none⟩ (.string ⟨#[]⟩)).setCell ⟨w.heap.size, 3, none⟩ (.int .i64 0)).setCell ⟨w.heap.size, 4, none⟩ (.slice (some ⟨w3.heap.size, 0, none⟩) 1 1)) := Only.put5 (Only.refl (fun b => b = w.heap.size) w3) (.inl rfl) _ _ _ _ _
    have hP := put5 (a' := .int .i64 3) (b' := .int .i64 0) (c' := .string ⟨#[]⟩) (d' := .int .i64 0) (f' := .slice (some ⟨w3.heap.size, 0, none⟩) 1 1) HB3.out
    have hO := Only.put5 HO3.out (R := w.heap.size) (.inr (Nat.le_refl _)) (.int .i64 3) (.int .i64 0) (.string ⟨#[]⟩) (.int .i64 0) (.slice (some ⟨w3.heap.size, 0, none⟩) 1 1)
    have hsz : (((((w3.setCell ⟨w.heap.size, 0, none⟩ (.int .i64 3)).setCell ⟨w.heap.size, 1, none⟩ (.int .i64 0)).setCell ⟨w.heap.size, 2, none⟩ (.string ⟨#[]⟩)).setCell ⟨w.heap.size, 3, none⟩ (.int .i64 0)).setCell ⟨w.heap.size, 4, none⟩ (.slice (some ⟨w3.heap.size, 0, none⟩) 1 1)).heap.size = w3.heap.size := by simp [World.setCell]
    generalize ((((w3.setCell ⟨w.heap.size, 0, none⟩ (.int .i64 3)).setCell ⟨w.heap.size, 1, none⟩ (.int .i64 0)).setCell ⟨w.heap.size, 2, none⟩ (.string ⟨#[]⟩)).setCell ⟨w.heap.size, 3, none⟩ (.int .i64 0)).setCell ⟨w.heap.size, 4, none⟩ (.slice (some ⟨w3.heap.size, 0, none⟩) 1 1) = w4 at *
    have hK := Blk.new' w4 28 #[.int .i64 o, .int .i64 m, .string s, .int .i64 u, .slice a n c] hsz
    have hb5 : Below w4.heap.size w4 (w4.alloc (.cells #[.int .i64 o, .int .i64 m, .string s, .int .i64 u, .slice a n c] 28)) := (Below.refl _ _).alloc (Nat.le_refl _) _
    refine bodyPost_ret (results_cell_row (p := 2) rfl _ _ w.heap.size 28 #[.int .i64 3, .int .i64 0, .string ⟨#[]⟩, .int .i64 0, .slice (some ⟨w3.heap.size, 0, none⟩) 1 1] (0, 0) _ rfl (hP.alloc _) Tryz.underlying28 rfl (by kernel_rfl)) rfl ?_
    refine ⟨_, rfl, ⟨_, _, _, _, _, _, _, rfl⟩, ?_, hO.trans (Only.of_below hb5), fun x ts hh => ?_⟩
    · rw [HA.out.1]
      exact (HD3.out.other hp (by omega) (by omega)).below hb5
    · obtain ⟨y, hy, rfl⟩ := HA.out.2 x ts hh
      have hx := ((HX3.out y ts hy).keep (Keeps.only hp (by intro q hq e; unfold From at hq; omega))).keep (Keeps.below hb5 (Nat.le_refl _))
      exact lc_one (s := []) (show From w.heap.size w3.heap.size by unfold From; omega) hK (LC.mono (Q := From w1.heap.size) (by intro q hq _; unfold From at hq ⊢; omega) _ hx)
  | false =>
    cases hp : onIs [40] st with
    | true =>
      obtain ⟨hCl, hgl⟩ := h.lts
      have HD := Lib.hid h
      have HR := Lib.hid (fun st' w h (hs : slen st' < slen st) => cond_d C g TS pv st' (P.oneN n) w h (P.oneN_less n) fun st'' w h hs' => hr st'' w h (by omega))
      have HA := Lib.hid (one_open_eq (n := n) hn hp)
      have HN := Lib.hid hn
      have HP := Lib.hid hp
      obtain ⟨t0, r0, hst, _⟩ := onIs_live hp
      have hsl : slen (tl st) < slen st := by
        rw [hst]
        show r0.length < r0.length + 1
        omega
      clear h hr hn hp hst
      go_enter Tryz.func109, Tryz.ntmps109
      go_wp2_with fail
      have HD0 := Lib.hid (HD.out.below (w' := w.alloc (.cells zc 28)) ((Below.refl _ _).alloc (Nat.le_refl _) _))
      have HO0 := Lib.hid ((Only.refl (· = C) w).alloc (.cells zc 28))
      have HB0 := Lib.hid (Blk.new w 28 zc)
      generalize w.alloc (.cells zc 28) = w0 at *
      with_reducible refine (pass_d C g TS pv st ⟨#[110, 111, 116]⟩ _ HD0.out (by decide)).mono ?_
      rintro e w1 ⟨rfl, hd1, ho1⟩
      rw [show by' (⟨#[110, 111, 116]⟩ : ByteArray) = [110, 111, 116] from rfl, HN.out] at hd1 ⊢
      have HD1 : Hid (Dc w1 C g TS pv st) := Lib.hid hd1
      have HO1 := Lib.hid (HO0.out.trans ho1)
      have HB1 := Lib.hid (HB0.out.only ho1 (by omega))
      clear hd1 ho1
      go_wp2_with fail
      with_reducible refine (pass_d C g TS pv st ⟨#[40]⟩ _ HD1.out (by decide)).mono ?_
      rintro e w2 ⟨rfl, hd2, ho2⟩
      rw [show by' (⟨#[40]⟩ : ByteArray) = [40] from rfl, HP.out] at hd2 ⊢
      have HD2 : Hid (Dc w2 C g TS pv (tl st)) := Lib.hid hd2
      have HO2 := Lib.hid (HO1.out.trans ho2)
      have HB2 := Lib.hid (HB1.out.only ho2 (by omega))
      clear hd2 ho2
      go_wp2_with fail
      have hcall := HR.out (tl st) _ HD2.out hsl
      with_reducible refine hcall.mono ?_
      rintro e w3 ⟨v3, rfl, ⟨o, m, s, u, a, n, c, rfl⟩, hd3, ho3, hx3⟩
      have HD3 := Lib.hid hd3
      have HX3 := Lib.hid hx3
      have HO3 := Lib.hid (HO2.out.trans ho3)
      have HB3 := Lib.hid (HB2.out.only ho3 (by omega))
      have h23 := ho3.size
      have h2l := HB2.out.lt
      clear hd3 ho3 hx3 hcall
      go_wp2_with fail
      have hb4 : Below w3.heap.size w3 (w3.alloc (.cells #[.int .i64 o, .int .i64 m, .string s, .int .i64 u, .slice a n c] 28)) := (Below.refl _ _).alloc (Nat.le_refl _) _
      have HE4 := Lib.hid (Blk.new w3 28 #[.int .i64 o, .int .i64 m, .string s, .int .i64 u, .slice a n c])
      have HD4 := Lib.hid (HD3.out.below hb4)
      have HO4 := Lib.hid (HO3.out.trans (Only.of_below hb4))
      have HB4 := Lib.hid (HB3.out.live' hb4)
      have HX4 := Lib.hid (fun x ts hh => (HX3.out x ts hh).keep (Keeps.below hb4 (Nat.le_refl _)))
      clear HX3 hb4
      generalize w3.alloc (.cells #[.int .i64 o, .int .i64 m, .string s, .int .i64 u, .slice a n c] 28) = w4 at *
      with_reducible refine (want_d C g TS pv _ ⟨#[41]⟩ _ HD4.out (by decide)).mono ?_
      rintro e w5 ⟨rfl, hd5, ho5⟩
      have HD5 := Lib.hid hd5
      have HO5 := Lib.hid (HO4.out.trans ho5)
      have HB5 := Lib.hid (HB4.out.only ho5 (by omega))
      have HE5 := Lib.hid (HE4.out.only ho5 (by omega))
      have HX5 := Lib.hid (fun x ts hh => (HX4.out x ts hh).keep (Keeps.only ho5 (by intro q hq e; unfold From at hq; omega)))
      clear hd5 ho5 HX4
      obtain ⟨c0, c1, c2, c3, c4, f0, f1, f2, f3, f4⟩ := five_free HB5.out
      obtain ⟨d0, d1, d2, d3, d4, _, _, _, _, _⟩ := five_free HE5.out
      go_wp2_with fail
      refine bodyPost_ret (results_cell_row (p := 2) rfl _ _ w.heap.size 28 #[.int .i64 o, .int .i64 m, .string s, .int .i64 u, .slice a n c] (0, 0) _ rfl (put5 HB5.out) Tryz.underlying28 rfl (by kernel_rfl)) rfl ?_
      refine ⟨_, rfl, ⟨_, _, _, _, _, _, _, rfl⟩, ?_, Only.put5 HO5.out (.inr (Nat.le_refl _)) _ _ _ _ _, fun x ts hh => ?_⟩
      · rw [HA.out.1]
        exact HD5.out.far5 (by omega) (by omega) _ _ _ _ _
      · obtain ⟨r, hr⟩ := HA.out.2 x ts hh
        exact LC.mono (Q := From w2.heap.size) (by intro q hq _; unfold From at hq ⊢; omega) _ ((HX5.out x r hr).keep (Keeps.only (S := fun b => b = w.heap.size) (Only.put5 (Only.refl (fun b => b = w.heap.size) _) (.inl rfl) _ _ _ _ _) (by intro q hq e; unfold From at hq; omega)))
    | false =>
      rw [one_lit hn hp]
      exact one_lit_d C g TS pv st w h hn hp
theorem oneN_d (C g : Nat) (TS : List Tok) (pv : Value) : ∀ (n : Nat) (st : Sta) (w : World), slen st ≤ n → Dc w C g TS pv st →
    Calls Tryz.prog 109 #[.pointer (some ⟨C, 0, none⟩)] w (TotD (LC (From w.heap.size)) AnyC C g TS pv (on st (P.oneN n)) w)
  | 0, st, w, hn, h => by
    rcases st with q | ts
    · exact one_d 0 C g TS pv (.error q) w h fun st' w' h' hs => absurd hs (Nat.not_lt_zero _)
    · have := h.live
      have hn' : ts.length ≤ 0 := hn
      omega
  | n + 1, st, w, hn, h => one_d n C g TS pv st w h fun st' w' h' hs => oneN_d C g TS pv n st' w' (by omega) h'
theorem condTot_d (C g : Nat) (TS : List Tok) (pv : Value) (st : Sta) (w : World) (h : Dc w C g TS pv st) :
    Calls Tryz.prog 58 #[.pointer (some ⟨C, 0, none⟩)] w (TotD (LC (From w.heap.size)) AnyC C g TS pv (on st P.pCond) w) := by
  rcases st with q | ts
  · exact cond_d C g TS pv (.error q) (P.oneN 0) w h (P.oneN_less 0) fun st' w' h' hs => oneN_d C g TS pv 0 st' w' hs h'
  · exact cond_d C g TS pv (.ok ts) (P.oneN ts.length) w h (P.oneN_less _) fun st' w' h' hs => oneN_d C g TS pv ts.length st' w' hs h'
end Go.Proofs.YtgobcflfhabdhaaGreatDoor.Lx
