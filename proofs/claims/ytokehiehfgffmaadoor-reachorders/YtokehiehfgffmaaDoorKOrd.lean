/-
  What reach.Order, Deep, Acyclic and Total answer, as contracts.
-/
import Derived.Test.YtokehiehfgffmaaDoorKPeel3
namespace Go.Proofs.YtokehiehfgffmaaDoor
open Go.RowKit
set_option linter.unusedVariables false
set_option linter.unusedSimpArgs false

theorem IsInts.nil (w : World) (a : Option Addr) : IsInts w a 0 [] := ⟨rfl, by decide, .inl rfl⟩
/-- A call that answers a list of numbers and a yes or no, and turns nothing that was there. -/
def GivesI (l : List Nat) (ok : Bool) (w : World) (e : Ending) (w' : World) : Prop := ∃ a cap, e = .returned (.tuple #[.slice a l.length cap, .bool ok]) ∧ IsInts w' a l.length (ci l) ∧ Below w.heap.size w w'
theorem givesI_no {w w' : World} (hb : Below w.heap.size w w') : GivesI [] false w (.returned (.tuple #[.slice none 0 0, .bool false])) w' := ⟨none, 0, rfl, IsInts.nil _ _, hb⟩
theorem ord_no {xs : List Nat} (h : ordOk xs = false) : ordL xs = [] := by simp [ordL, h]
theorem deep_no {xs : List Nat} (h : acyB xs = false) : deepL xs = [] := by simp [deepL, h]
def cntAt (B : Nat) (w : World) : Nat := M.cnt (leftAt B w)
theorem cntAt_of {w : World} {B L : Nat} (h : w.cell? ⟨B, 1, none⟩ = some (.int .u64 (L : Nat))) : cntAt B w = M.cnt L := by unfold cntAt; rw [leftAt_of h]
theorem Pel.left {w0 w : World} {B : Nat} {a : Option Addr} {len cap L : Nat} {vo vd : Value} {r : Nat} (h : Pel w0 B a len cap L vo vd r w) : w.cell? ⟨B, 1, none⟩ = some (.int .u64 (L : Nat)) := h.1.cell 1
/-- The state of an order. -/
def OrdI (w0 : World) (B g : Nat) (a : Option Addr) (len cap : Nat) (vd : Value) (xs : List Nat) (s : List Nat × Nat) (w : World) : Prop :=
  Ord w0 B g len a len cap s.2 s.1 vd 0 w ∧ OInv len xs s.1 s.2 ∧ ∃ f, M.cnt s.2 ≤ f ∧ peelO xs f s.2 s.1 = ordEnd xs
theorem made_own {w : World} {g len base : Nat} (h : Blk w g 3 (madeCells #[Value.int .i64 0] len)) (hg : base ≤ g) (hl : len ≤ 64) : w.ownsRow base 3 1 (.slice (some ⟨g, 0, none⟩) 0 len) 0 (ints (ci [])) :=
  ⟨rfl, .inr ⟨g, len, _, rfl, hg, h, Nat.zero_le _, by unfold maxLen; omega, by rw [size_madeCells]; omega, by simp [ints, ci]⟩⟩
theorem ci_ints {w : World} {base g oc : Nat} {l : List Nat} (h : w.ownsRow base 3 1 (.slice (some ⟨g, 0, none⟩) l.length oc) l.length (ints (ci l))) (hl : l.length ≤ 64) : IsInts w (some ⟨g, 0, none⟩) l.length (ci l) :=
  ⟨ci_len l, by omega, .inr ⟨g, 0, rfl, fun i hi => own_cells h i (by rw [ci_len]; exact hi)⟩⟩
set_option maxHeartbeats 1000000 in
theorem order_any (a : Option Addr) (len cap : Nat) (xs : List Nat) (w : World) (hx : IsWords w a len xs) (hT : Tb w) :
    Calls Tryd.prog 12 #[.slice a len cap] w (GivesI (ordL xs) (ordOk xs) w) := by
  have HM := may_any' a len cap xs w hx hT
  cases hm : R.mayR xs
  · rw [hm] at HM
    have HM := Lib.hid HM
    have e0 : ordOk xs = false := by simp [ordOk, hm]
    have e1 := ord_no e0
    rw [e0, e1]
    clear e0 e1
    go_enter Tryd.func12, Tryd.ntmps12
    go_wp2_with fail
    refine HM.out.mono ?_
    rintro e w' ⟨rfl, hb⟩
    go_wp2
    go_ret2
    exact givesI_no hb
  · have hr : Rel len xs := ⟨hx.1, hx.2.2.1, hm⟩
    have hl := hr.le
    have HR := Lib.hid hr
    rw [hm] at HM
    have HM := Lib.hid HM
    have HOK : Hid (ordOk xs = ((ordEnd xs).2 == 0)) := show ordOk xs = _ by simp [ordOk, hm]
    clear hr
    go_enter Tryd.func12, Tryd.ntmps12
    go_wp2_with fail
    refine HM.out.mono ?_
    rintro e w1 ⟨rfl, hb1⟩
    go_wp2_with fail
    refine (start_any a len cap w1 hl).mono ?_
    rintro e w2 ⟨go, gd, rfl, hgo, hgd, hne, hBo, hBd, hb2⟩
    have hb12 : Below w.heap.size w w2 := hb1.trans (hb2.mono hb1.size)
    have hsz := hb1.size
    go_wp2_with fail
    refine (run_peel _ _ enters_pmore enters_pleast _ (OrdI w w2.heap.size go a len cap (.slice (some ⟨gd, 0, none⟩) len len) xs) (fun s => freeN xs s.2 != 0) (cntAt w2.heap.size) ?_ ?_ ([], R.things len) _ ?_).mono ?_
    · rintro ⟨l, L⟩ w' ⟨hO, hI, hf⟩
      refine (peel_more w w' _ a len cap L _ _ _ xs hO.1 hx hT hI.lt).mono ?_
      rintro e w'' ⟨rfl, hb⟩
      exact ⟨rfl, ⟨hO.below hb, hI, hf⟩, by rw [cntAt_of hO.1.left, cntAt_of (hO.1.below hb).left]⟩
    · rintro ⟨l, L⟩ w' ⟨hO, hI, f, hfc, hfe⟩ hb
      dsimp only at hO hI hfc hfe
      have hf0 : freeN xs L ≠ 0 := by simpa using hb
      obtain ⟨hx1, hx2, _⟩ := next_bits HR.out hI.lt (fun x hx => ((hI.bit x).1 hx).1) hf0
      have hc := cnt_drop L _ hI.lt (bit_lt hI.lt hx2) hx2
      have hcn := hI.cnt
      refine (peel_least w w' _ go len a len cap L l _ 0 xs hO hx hT hI.lt hf0 (by omega)).mono ?_
      rintro e w'' ⟨rfl, hO2⟩
      refine ⟨rfl, ⟨(l ++ [nextN xs L], M.dropN L (nextN xs L : Nat)), hO2, hI.step HR.out hf0, ?_⟩, ?_⟩
      · obtain ⟨f', rfl⟩ : ∃ f', f = f' + 1 := ⟨f - 1, by omega⟩
        rw [peelO_go hf0] at hfe
        exact ⟨f', by dsimp only; omega, hfe⟩
      · rw [cntAt_of hO.1.left, cntAt_of hO2.1.left]
        omega
    · refine ⟨⟨⟨Blk.new _ _ _, hb12.alloc hb12.size _, hb12.size⟩, made_own (hBo.alloc _) (by omega) hl⟩, OInv.start HR.out, 64, M.cnt_le _, ?_⟩
      unfold ordEnd
      rw [HR.out.1]
    · rintro e w3 ⟨rfl, ⟨l, L⟩, ⟨hO, hI, f, hfc, hfe⟩, hb⟩
      have hf0 : freeN xs L = 0 := by simpa using hb
      dsimp only at hfe hO hI hfc
      rw [peelO_stop hf0] at hfe
      have e1 : (ordEnd xs).1 = l := by rw [← hfe]
      have e2 : (ordEnd xs).2 = L := by rw [← hfe]
      have HE : Hid (ordOk xs = (L == 0)) := show ordOk xs = (L == 0) by rw [HOK.out, e2]
      have HL : Hid (ordOk xs = true → ordL xs = l) := show ordOk xs = true → ordL xs = l by
        intro h
        simp [ordL, h, e1]
      have c1 := hO.1.left
      have c2 : w3.cell? ⟨w2.heap.size, 2, none⟩ = some (.slice (some ⟨go, 0, none⟩) l.length len) := hO.1.1.cell 2
      have HO := Lib.hid hO
      have hll : l.length ≤ 64 := by
        have := hI.cnt
        omega
      clear hO hI e1 e2 hfe
      by_cases h0 : L = 0
      · subst h0
        have hok : ordOk xs = true := by rw [HE.out]; rfl
        have HOKT := Lib.hid hok
        clear hok
        go_wp2
        go_ret2
        rw [HL.out HOKT.out, HOKT.out]
        exact ⟨_, _, rfl, ci_ints HO.out.2 hll, HO.out.1.2.1⟩
      · have hok : ordOk xs = false := by rw [HE.out]; simp [h0]
        have hne : ((L : Int) != 0) = true := by simp; omega
        have HOKT := Lib.hid hok
        clear hok
        go_wp2
        go_ret2
        rw [ord_no HOKT.out, HOKT.out]
        exact givesI_no HO.out.1.2.1
/-- The state of the depths. -/
def DepI (w0 : World) (B g : Nat) (a : Option Addr) (len cap : Nat) (vo : Value) (xs : List Nat) (s : List Nat × Nat × Nat) (w : World) : Prop :=
  Dep w0 B g a len cap s.2.1 vo s.2.2 s.1 w ∧ DInv len xs s.2.1 s.2.2 s.1 ∧ ∃ f, M.cnt s.2.1 ≤ f ∧ peelD xs f s.2.1 s.2.2 s.1 = deepEnd xs
theorem icells_ints {w : World} {g len : Nat} {ds : List Nat} (h : Blk w g 3 (icells ds)) (hl : ds.length = len) (h64 : len ≤ 64) : IsInts w (some ⟨g, 0, none⟩) len (ci ds) :=
  ⟨by rw [ci_len, hl], by omega, .inr ⟨g, 0, rfl, fun i hi => by
    rw [Nat.zero_add, h.cell, icells_at ds i (by omega)]
    have : i < ds.length := by omega
    simp [ci, R.row, List.getD, this]⟩⟩
set_option maxHeartbeats 1000000 in
theorem deep_any (a : Option Addr) (len cap : Nat) (xs : List Nat) (w : World) (hx : IsWords w a len xs) (hT : Tb w) :
    Calls Tryd.prog 14 #[.slice a len cap] w (GivesI (deepL xs) (acyB xs) w) := by
  have HM := may_any' a len cap xs w hx hT
  cases hm : R.mayR xs
  · rw [hm] at HM
    have HM := Lib.hid HM
    have e0 : acyB xs = false := by simp [acyB, hm]
    have e1 := deep_no e0
    rw [e0, e1]
    clear e0 e1
    go_enter Tryd.func14, Tryd.ntmps14
    go_wp2_with fail
    refine HM.out.mono ?_
    rintro e w' ⟨rfl, hb⟩
    go_wp2
    go_ret2
    exact givesI_no hb
  · have hr : Rel len xs := ⟨hx.1, hx.2.2.1, hm⟩
    have hl := hr.le
    have HR := Lib.hid hr
    rw [hm] at HM
    have HM := Lib.hid HM
    have HOK : Hid (acyB xs = ((deepEnd xs).2 == 0)) := show acyB xs = _ by simp [acyB, hm]
    clear hr
    go_enter Tryd.func14, Tryd.ntmps14
    go_wp2_with fail
    refine HM.out.mono ?_
    rintro e w1 ⟨rfl, hb1⟩
    go_wp2_with fail
    refine (start_any a len cap w1 hl).mono ?_
    rintro e w2 ⟨go, gd, rfl, hgo, hgd, hne, hBo, hBd, hb2⟩
    have hb12 : Below w.heap.size w w2 := hb1.trans (hb2.mono hb1.size)
    have hsz := hb1.size
    rw [made_icells] at hBd
    go_wp2_with fail
    refine (run_peel _ _ enters_pmore enters_pall _ (DepI w w2.heap.size gd a len cap (.slice (some ⟨go, 0, none⟩) 0 len) xs) (fun s => freeN xs s.2.1 != 0) (cntAt w2.heap.size) ?_ ?_ (List.replicate len 0, R.things len, 0) _ ?_).mono ?_
    · rintro ⟨ds, L, r⟩ w' ⟨hO, hI, hf⟩
      refine (peel_more w w' _ a len cap L _ _ _ xs hO.1 hx hT hI.lt).mono ?_
      rintro e w'' ⟨rfl, hb⟩
      exact ⟨rfl, ⟨hO.below hb, hI, hf⟩, by rw [cntAt_of hO.1.left, cntAt_of (hO.1.below hb).left]⟩
    · rintro ⟨ds, L, r⟩ w' ⟨hO, hI, f, hfc, hfe⟩ hb
      dsimp only at hO hI hfc hfe
      have hf0 : freeN xs L ≠ 0 := by simpa using hb
      have hin : ∀ y ∈ M.bl (freeN xs L), y < len := fun y hy => hI.ins y ((free_bit HR.out hI.lt hI.ins y).1 ((M.mem_bl _ _).1 hy).2).1
      obtain ⟨z, hz⟩ := ne_bit hf0
      have hc := cnt_less L _ hI.lt (freeN_lt xs hI.lt) z ((free_bit HR.out hI.lt hI.ins z).1 hz).1 hz
      have hcn := hI.cnt
      refine (peel_all w w' _ gd a len cap L _ r ds xs hO hx hT hI.lt hI.len hin (by omega)).mono ?_
      rintro e w'' ⟨rfl, hO2⟩
      refine ⟨rfl, ⟨(setAll r (M.bl (freeN xs L)) ds, M.lessN L (freeN xs L), r + 1), hO2, hI.step HR.out hf0, ?_⟩, ?_⟩
      · obtain ⟨f', rfl⟩ : ∃ f', f = f' + 1 := ⟨f - 1, by omega⟩
        rw [peelD_go hf0] at hfe
        exact ⟨f', by dsimp only; omega, hfe⟩
      · rw [cntAt_of hO.1.left, cntAt_of hO2.1.left]
        omega
    · refine ⟨⟨⟨Blk.new _ _ _, hb12.alloc hb12.size _, hb12.size⟩, hBd.alloc _, by omega⟩, DInv.start HR.out, 64, M.cnt_le _, ?_⟩
      unfold deepEnd
      rw [HR.out.1]
    · rintro e w3 ⟨rfl, ⟨ds, L, r⟩, ⟨hO, hI, f, hfc, hfe⟩, hb⟩
      have hf0 : freeN xs L = 0 := by simpa using hb
      dsimp only at hfe hO hI hfc
      rw [peelD_stop hf0] at hfe
      have e1 : (deepEnd xs).1 = ds := by rw [← hfe]
      have e2 : (deepEnd xs).2 = L := by rw [← hfe]
      have HE : Hid (acyB xs = (L == 0)) := show acyB xs = (L == 0) by rw [HOK.out, e2]
      have HL : Hid (acyB xs = true → deepL xs = ds) := show acyB xs = true → deepL xs = ds by
        intro h
        simp [deepL, h, e1]
      have c1 := hO.1.left
      have c2 : w3.cell? ⟨w2.heap.size, 3, none⟩ = some (.slice (some ⟨gd, 0, none⟩) len len) := hO.1.1.cell 3
      have HO := Lib.hid hO
      have HLEN := Lib.hid hI.len
      clear hO hI e1 e2 hfe
      by_cases h0 : L = 0
      · subst h0
        have hok : acyB xs = true := by rw [HE.out]; rfl
        have HOKT := Lib.hid hok
        clear hok
        go_wp2
        go_ret2
        rw [HL.out HOKT.out, HOKT.out]
        have hB := HO.out.2.1
        have hln := HLEN.out
        exact ⟨_, _, by rw [hln]; rfl, by rw [hln]; exact icells_ints hB hln hl, HO.out.1.2.1⟩
      · have hok : acyB xs = false := by rw [HE.out]; simp [h0]
        have hne : ((L : Int) != 0) = true := by simp; omega
        have HOKT := Lib.hid hok
        clear hok
        go_wp2
        go_ret2
        rw [deep_no HOKT.out, HOKT.out]
        exact givesI_no HO.out.1.2.1
set_option maxHeartbeats 400000 in
theorem acyclic_any (a : Option Addr) (len cap : Nat) (xs : List Nat) (w : World) (hx : IsWords w a len xs) (hT : Tb w) :
    Calls Tryd.prog 17 #[.slice a len cap] w (Ans (.bool (acyB xs)) w) := by
  have HD := Lib.hid (deep_any a len cap xs w hx hT)
  clear hx hT
  go_enter Tryd.func17, Tryd.ntmps17
  go_wp2_with fail
  refine HD.out.mono ?_
  rintro e w1 ⟨a1, c1, rfl, hi, hb⟩
  go_wp2
  go_ret
  exact ⟨rfl, hb⟩
end Go.Proofs.YtokehiehfgffmaaDoor
