/-
  What 'deep' of the statements of layer 3 tells, as a contract.
-/
import Derived.Test.YtokehiehfgffmaaDoorKLaw
namespace Go.Proofs.YtokehiehfgffmaaDoor
open Go.RowKit
set_option linter.unusedVariables false
set_option linter.unusedSimpArgs false

/-- Depths while they are reckoned along an order o: things before place i are done, and of thing o[i] the steps below k. -/
structure Relax (n : Nat) (xs o : List Nat) (i k : Nat) (ds : List Nat) : Prop where
  len : ds.length = n
  bnd : ∀ j, j < n → R.row ds (o.getD j 0) ≤ j
  low : ∀ j, j < i → ∀ b, bf xs (o.getD j 0) b → R.row ds (o.getD j 0) + 1 ≤ R.row ds b
  cur : ∀ b, b < k → bf xs (o.getD i 0) b → R.row ds (o.getD i 0) + 1 ≤ R.row ds b
  why : ∀ b, b < n → R.row ds b = 0 ∨ ∃ j, j ≤ i ∧ j < n ∧ bf xs (o.getD j 0) b ∧ R.row ds b = R.row ds (o.getD j 0) + 1
theorem zero_row (n i : Nat) : R.row (List.replicate n 0) i = 0 := by
  by_cases hi : i < n
  · simp [R.row, List.getD, hi]
  · rw [R.row_out (by simp; omega)]
theorem Relax.start (n : Nat) (xs o : List Nat) : Relax n xs o 0 0 (List.replicate n 0) :=
  ⟨by simp, fun j _ => by rw [zero_row]; omega, fun j hj => by omega, fun b hb => by omega, fun b _ => .inl (zero_row n b)⟩
theorem Relax.skip {n : Nat} {xs o ds : List Nat} {i k : Nat} (h : Relax n xs o i k ds) (hs : bf xs (o.getD i 0) k → R.row ds (o.getD i 0) + 1 ≤ R.row ds k) : Relax n xs o i (k + 1) ds :=
  ⟨h.len, h.bnd, h.low, fun b hb hbf => by
    rcases Nat.lt_or_ge b k with h1 | h1
    · exact h.cur b h1 hbf
    · obtain rfl : b = k := by omega
      exact hs hbf, h.why⟩
theorem Relax.next {n : Nat} {xs o ds : List Nat} {i : Nat} (hr : Rel n xs) (h : Relax n xs o i n ds) : Relax n xs o (i + 1) 0 ds :=
  ⟨h.len, h.bnd, fun j hj b hb => by
    rcases Nat.lt_or_ge j i with h1 | h1
    · exact h.low j h1 b hb
    · obtain rfl : j = i := by omega
      exact h.cur b (hr.lt hb).2.1 hb, fun b hb => by omega, fun b hb => by
    rcases h.why b hb with h1 | ⟨j, h1, h2⟩
    · exact .inl h1
    · exact .inr ⟨j, by omega, h2⟩⟩
theorem Relax.hit {n : Nat} {xs o ds : List Nat} {i k : Nat} (hr : Rel n xs) (ho : Ordered n xs o) (hi : i < n) (h : Relax n xs o i k ds) (hb : bf xs (o.getD i 0) k) (hlt : R.row ds k < R.row ds (o.getD i 0) + 1) : Relax n xs o i (k + 1) (ds.set k (R.row ds (o.getD i 0) + 1)) := by
  have hkn : k < n := (hr.lt hb).2.1
  obtain ⟨jk, hjk, ejk⟩ := mem_getD (ho.all k hkn)
  rw [ho.len] at hjk
  have hij : i < jk := by
    obtain ⟨j, hj, e⟩ := ho.pre jk hjk (o.getD i 0) (by rw [ejk]; exact hb)
    have := getD_inj ho.nd (by rw [ho.len]; omega) (by rw [ho.len]; omega) e
    omega
  have hne : ∀ j, j ≤ i → o.getD j 0 ≠ k := by
    intro j hj e
    have := getD_inj ho.nd (by rw [ho.len]; omega) (by rw [ho.len]; exact hjk) (e.trans ejk.symm)
    omega
  have hset : ∀ b, R.row (ds.set k (R.row ds (o.getD i 0) + 1)) b = if k = b then R.row ds (o.getD i 0) + 1 else R.row ds b := fun b => set_row _ _ _ _ (by rw [h.len]; exact hkn)
  have hsame : ∀ j, j ≤ i → R.row (ds.set k (R.row ds (o.getD i 0) + 1)) (o.getD j 0) = R.row ds (o.getD j 0) := by
    intro j hj
    rw [hset, if_neg (fun e => hne j hj e.symm)]
  have hup : ∀ b, R.row ds b ≤ R.row (ds.set k (R.row ds (o.getD i 0) + 1)) b := by
    intro b
    rw [hset]
    split
    · rename_i e
      subst e
      omega
    · omega
  refine ⟨by simp [h.len], fun j hj => ?_, fun j hj b hbf => ?_, fun b hb' hbf => ?_, fun b hbn => ?_⟩
  · rw [hset]
    split
    · rename_i e
      have := getD_inj ho.nd (by rw [ho.len]; exact hj) (by rw [ho.len]; exact hjk) (e.symm.trans ejk.symm)
      have := h.bnd i hi
      omega
    · exact h.bnd j hj
  · rw [hsame j (by omega)]
    exact Nat.le_trans (h.low j hj b hbf) (hup b)
  · rw [hsame i (Nat.le_refl _)]
    rcases Nat.lt_or_ge b k with h1 | h1
    · exact Nat.le_trans (h.cur b h1 hbf) (hup b)
    · obtain rfl : b = k := by omega
      rw [hset, if_pos rfl]
      exact Nat.le_refl _
  · by_cases e : k = b
    · subst e
      refine .inr ⟨i, Nat.le_refl _, hi, hb, ?_⟩
      rw [hsame i (Nat.le_refl _), hset, if_pos rfl]
    · rw [hset, if_neg e]
      rcases h.why b hbn with h1 | ⟨j, h1, h2, h3, h4⟩
      · exact .inl h1
      · refine .inr ⟨j, h1, h2, h3, ?_⟩
        rw [hsame j h1]
        exact h4
theorem Relax.deep {n : Nat} {xs o ds : List Nat} (hr : Rel n xs) (ho : Ordered n xs o) (h : Relax n xs o n 0 ds) : IsDeep n xs (R.row ds) := by
  constructor
  · intro a b hb
    obtain ⟨j, hj, e⟩ := mem_getD (ho.all a (hr.lt hb).1)
    rw [ho.len] at hj
    subst e
    exact h.low j hj b hb
  · intro b hb
    rcases h.why b hb with h1 | ⟨j, _, _, h3, h4⟩
    · exact .inl h1
    · exact .inr ⟨_, h3, h4⟩
theorem Relax.eq {n : Nat} {xs o ds : List Nat} (hr : Rel n xs) (ho : Ordered n xs o) (h : Relax n xs o n 0 ds) (h0 : (deepEnd xs).2 = 0) : ds = (deepEnd xs).1 := by
  obtain ⟨h1, _, h2⟩ := deep_is hr h0
  apply R.rows_ext (by rw [h.len, h1])
  intro i hi
  exact (h.deep hr ho).uniq hr h2 _ i (by rw [← h.len]; exact hi) (Nat.le_refl _)

def LDepR (n : Nat) (xs o : List Nat) (w1 : World) (i k : Nat) (w : World) : Prop := ∃ ds, Relax n xs o i k ds ∧ Blk w w1.heap.size 3 (icells ds) ∧ Below w1.heap.size w1 w
def LDepOut (n : Nat) (xs o : List Nat) (w1 : World) (v : Value) (w : World) : Prop := ∃ i : Nat, i ≤ n ∧ v = .int .i64 i ∧ LDepR n xs o w1 i 0 w
def LDepIn (n : Nat) (xs o : List Nat) (w1 : World) (i : Nat) (v : Value) (w : World) : Prop := ∃ k : Nat, k ≤ n ∧ v = .int .i64 k ∧ LDepR n xs o w1 i k w
set_option maxRecDepth 4000 in
set_option maxHeartbeats 2000000 in
theorem ldeep_may (a : Option Addr) (len cap : Nat) (xs : List Nat) (w : World) (hx : IsWords w a len xs) (hm : R.mayR xs = true) (h1n : 0 < len) :
    Calls Tryd.prog 13 #[.slice a len cap] w (GivesI (deepL xs) (acyB xs) w) := by
  obtain rfl : xs.length = len := hx.1
  have hr : Rel xs.length xs := ⟨rfl, hx.2.2.1, hm⟩
  have HOR := lorder_may a xs.length cap xs w hx hm
  have hl := R.may_len hm
  have HR := Lib.hid hr
  have HAC := Lib.hid (ord_acy hr)
  cases hok : ordOk xs
  · rw [hok] at HOR
    have HOR := Lib.hid HOR
    have hno : acyB xs = false := by rw [← HAC.out, hok]
    rw [hno, deep_no hno]
    clear hno hok hr
    go_enter Tryd.func13, Tryd.ntmps13
    go_wp2_with fail
    refine HOR.out.mono ?_
    rintro e w1 ⟨ao, co, rfl, hi, hb⟩
    go_wp2
    go_ret2
    exact givesI_no hb
  · have h0 : (ordEnd xs).2 = 0 := by
      have := hok
      unfold ordOk at this
      rw [hm, Bool.true_and, beq_iff_eq] at this
      exact this
    have hord := ordered hr h0
    have hol : ordL xs = (ordEnd xs).1 := by simp [ordL, hok]
    rw [← hol] at hord
    have hac : acyB xs = true := by rw [← HAC.out, hok]
    have hd0 : (deepEnd xs).2 = 0 := by
      have := hac
      unfold acyB at this
      rw [hm, Bool.true_and, beq_iff_eq] at this
      exact this
    have HDL : Hid (deepL xs = (deepEnd xs).1) := show deepL xs = _ by simp [deepL, hac]
    have HD0 := Lib.hid hd0
    rw [hok] at HOR
    rw [hac]
    have HORD := Lib.hid hord
    have holen : (ordL xs).length = xs.length := hord.len
    have HOR := Lib.hid HOR
    have hmk := run_make_row' (P := Tryd.prog) 28 3 (.int .i64 0) 8 Tryd.underlying28 Tryd.info3 rfl .i64 .i64 xs.length (by omega) (by omega)
    clear hol hac hd0 h0 hok hr hord
    generalize ordL xs = o at *
    go_enter Tryd.func13, Tryd.ntmps13
    go_wp2_with fail
    refine HOR.out.mono ?_
    rintro e w1 ⟨ao, co, rfl, hi, hb1⟩
    rw [holen] at hi
    rw [holen]
    have HB1 := Lib.hid hb1
    have hxr := hx.below hb1
    clear hb1
    go_wp2
    have hstart : LDepOut xs.length xs o w1 (.int .i64 0) (w1.alloc (.cells (madeCells #[Value.int .i64 0] xs.length) 3)) :=
      ⟨0, Nat.zero_le _, rfl, _, Relax.start _ _ _, by rw [← made_icells]; exact Blk.new _ _ _, (Below.refl _ _).alloc (Nat.le_refl _) _⟩
    have HSTART := Lib.hid hstart
    clear hstart hmk
    go_loopw [7] (fun v wr => LDepOut xs.length xs o w1 v wr) (fun v _ => xs.length - (intOf v).toNat)
    case atStart => exact HSTART.out
    case round =>
      obtain ⟨i, hin, rfl, hD⟩ := hrel
      have HD := Lib.hid hD
      clear hD
      by_cases hil : i < xs.length
      · go_wp2
        go_loopw [8] (fun v w' => LDepIn xs.length xs o w1 i v w') (fun v _ => xs.length - (intOf v).toNat)
        case atStart => exact ⟨0, Nat.zero_le _, rfl, HD.out⟩
        case round =>
          obtain ⟨k, hkn, rfl, ds, hR, hB, hbel⟩ := hrel
          by_cases hkl : k < xs.length
          · have hiw := hi.below hbel
            have hxw := hxr.below hbel
            obtain ⟨bo, off, hao, hc⟩ : ∃ b off, ao = some ⟨b, off, none⟩ ∧ ∀ i, i < xs.length → wr.cell? ⟨b, off + i, none⟩ = some (.int .i64 ((ci o).getD i 0)) := by
              obtain ⟨_, _, h | h⟩ := hiw
              · omega
              · exact h
            subst hao
            have coi := hc i hil
            have eoi : (ci o).getD i 0 = ((o.getD i 0 : Nat) : Int) := by
              have : i < o.length := by omega
              simp [ci, List.getD, this]
            rw [eoi] at coi
            have hoin : o.getD i 0 < xs.length := HORD.out.ins _ (getD_mem (by omega))
            have HHIT := Lib.hid (fun hb hlt => hR.hit HR.out HORD.out hil hb hlt)
            have HSKIP := Lib.hid (hR.skip)
            have hbnd := hR.bnd i hil
            have hlen := hR.len
            have hat := at_any a xs.length cap (o.getD i 0) k xs
            generalize hoi : o.getD i 0 = x at *
            have cdk : wr.cell? ⟨w1.heap.size, k, none⟩ = some (.int .i64 (R.row ds k : Nat)) := by rw [hB.cell, icells_at _ _ (by omega)]
            have cdx : wr.cell? ⟨w1.heap.size, x, none⟩ = some (.int .i64 (R.row ds x : Nat)) := by rw [hB.cell, icells_at _ _ (by omega)]
            have fk := hB.free k
            have HH := Lib.hid hR
            have HBB := Lib.hid hB
            have HBEL := Lib.hid hbel
            have C1 : ∀ nq, Calls Tryd.prog 22 #[.slice a xs.length cap, .int .i64 (x : Nat), .int .i64 (k : Nat)] (wr.drewN nq) fun e w' => e = .returned (.bool ((R.row xs x).testBit k)) ∧ w' = wr.drewN nq := fun nq => quiet_of (hat _ (hxw.drewN nq) hoin hl)
            generalize hdk : R.row ds k = dk at *
            generalize hdx : R.row ds x = dx at *
            have i1 : (0 : Int) ≤ (i : Int) := by omega
            have i2 : (i : Int) < (xs.length : Int) := by omega
            have i3 : (0 : Int) ≤ (k : Int) := by omega
            have i4 : (k : Int) < (xs.length : Int) := by omega
            have i5 : (0 : Int) ≤ (x : Int) := by omega
            have i6 : (x : Int) < (xs.length : Int) := by omega
            have s1 : IntKind.i64.wrap ((dx : Int) + 1) = (dx : Int) + 1 := by rw [IntKind.wrap_i64]; omega
            clear hc hiw hxw hat eoi hR hB hbel
            cases hp : (R.row xs x).testBit k
            · rw [hp] at C1
              have D1 := Lib.hid C1
              have HNX : Hid (Relax xs.length xs o i (k + 1) ds) := HSKIP.out (fun hb => by
                rw [bf, hp] at hb
                cases hb)
              clear C1 hp
              go_wp2_with fail
              go_quiet (first | (go_at_call 22; exact Calls.quiet_of_same (D1.out _)))
              go_wp2
              go_roundw
              case rel => exact ⟨k + 1, by omega, by go_num, ds, HNX.out, HBB.out.drewN _, below_drewN HBEL.out _⟩
              case measure => simp [intOf]; omega
            · rw [hp] at C1
              have D1 := Lib.hid C1
              by_cases hlt : dk < dx + 1
              · have HNX : Hid (Relax xs.length xs o i (k + 1) (ds.set k (dx + 1))) := HHIT.out hp hlt
                have g1 : (dk : Int) < (dx : Int) + 1 := by omega
                have g2 : decide ((dk : Int) < (dx : Int) + 1) = true := by simp; omega
                have es : ((dx + 1 : Nat) : Int) = (dx : Int) + 1 := by omega
                have HES := Lib.hid es
                clear C1 hp es
                go_wp2_with fail
                go_quiet (first | (go_at_call 22; exact Calls.quiet_of_same (D1.out _)))
                go_wp2
                go_roundw
                case rel =>
                  refine ⟨k + 1, by omega, by go_num, _, HNX.out, ?_, (below_drewN HBEL.out _).setCell (Nat.le_refl _) _⟩
                  have := (HBB.out.drewN nq).set k (.int .i64 ((dx + 1 : Nat) : Int))
                  rw [icells_set, HES.out] at this
                  exact this
                case measure => simp [intOf]; omega
              · have HNX : Hid (Relax xs.length xs o i (k + 1) ds) := HSKIP.out (fun _ => by omega)
                have g1 : ¬ (dk : Int) < (dx : Int) + 1 := by omega
                have g2 : decide ((dk : Int) < (dx : Int) + 1) = false := by simp; omega
                clear C1 hp
                go_wp2_with fail
                go_quiet (first | (go_at_call 22; exact Calls.quiet_of_same (D1.out _)))
                go_wp2
                go_roundw
                case rel => exact ⟨k + 1, by omega, by go_num, ds, HNX.out, HBB.out.drewN _, below_drewN HBEL.out _⟩
                case measure => simp [intOf]; omega
          · obtain rfl : k = xs.length := by omega
            have HNX := Lib.hid (hR.next HR.out)
            clear hR
            go_wp2
            go_roundw
            case rel => exact ⟨i + 1, by omega, by go_num, ds, HNX.out, hB, hbel⟩
            case measure => simp [intOf]; omega
      · obtain rfl : i = xs.length := by omega
        obtain ⟨ds, hR, hB, hbel⟩ := HD.out
        have HE := Lib.hid (hR.eq HR.out HORD.out HD0.out)
        have HLN := Lib.hid hR.len
        clear hR
        go_wp2
        go_ret2
        rw [HDL.out, ← HE.out]
        have hln := HLN.out
        exact ⟨_, _, by rw [hln]; rfl, by rw [hln]; exact icells_ints hB hln hl, HB1.out.trans (hbel.mono HB1.out.size)⟩
end Go.Proofs.YtokehiehfgffmaaDoor
