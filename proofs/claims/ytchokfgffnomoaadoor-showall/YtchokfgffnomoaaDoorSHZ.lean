/-
  What a page tells of blocks of statements, as contracts.
-/
import Derived.Test.YtchokfgffnomoaaDoorSHMode
import Derived.Deep.DeepCutAuto
namespace Go.Proofs.YtchokfgffnomoaaDoor.Lx
open Go.RowKit
open P (EX CO ST)
set_option maxRecDepth 100000
set_option linter.unusedVariables false
set_option linter.unusedSimpArgs false
/-- A block's text, and a choice's. -/
def blockT (es : List ST) (d : Nat) : List UInt8 := [123, 10] ++ (P.xSs es (d + 1) ++ (P.ind d ++ [125]))
def choiceT (ar : List EX) (th el : List ST) (d : Nat) : List UInt8 := [105, 102, 32] ++ (kidT ar 0 ++ ([32] ++ (blockT th d ++ (if el = [] then [] else [32, 101, 108, 115, 101, 32] ++ blockT el d))))
/-- A statement is told onto a page. -/
def StPg (B b : Nat) (s : ST) : Prop := ∀ (d : Nat) (m : Int) (l : List UInt8) (v : Value) (w : World), m = ((2 * d : Nat) : Int) → LS (· < B) w v s → Pg B w b m l → l.length + (P.xS s d).length ≤ big → 2 * d ≤ big → Calls Tryd.prog 85 #[.pointer (some ⟨b, 0, none⟩), v] w (Said B b m (l ++ P.xS s d) (.tuple #[]) w)
theorem pxSs_app (d : Nat) : ∀ a c : List ST, P.xSs (a ++ c) d = P.xSs a d ++ P.xSs c d
  | [], c => by simp [P.xSs]
  | x :: a, c => by simp [P.xSs, pxSs_app d a c]
theorem pxSs_take {es : List ST} {j : Nat} {s : ST} (d : Nat) (h : es[j]? = some s) : P.xSs (es.take (j + 1)) d = P.xSs (es.take j) d ++ P.xS s d := by
  rw [List.take_add_one, h, pxSs_app]
  simp [P.xSs]
theorem pxSs_le {es : List ST} (d j : Nat) : (P.xSs (es.take j) d).length ≤ (P.xSs es d).length := by
  conv => rhs; rw [← List.take_append_drop j es, pxSs_app]
  simp
theorem Pg.turn {B b : Nat} {m : Int} {l : List UInt8} {w : World} (h : Pg B w b m l) (m' : Int) : Pg B (w.setCell ⟨b, 2, none⟩ (.int .i64 m')) b m' l ∧ Kp B b w (w.setCell ⟨b, 2, none⟩ (.int .i64 m')) := by
  obtain ⟨p, v, hp, hb, ho⟩ := h.blk
  have hS : Only (fun k => k = b) w (w.setCell ⟨b, 2, none⟩ (.int .i64 m')) := (Only.refl (fun k => k = b) w).setCell (p := ⟨b, 2, none⟩) (.inl rfl) _
  have hbel : Below B w (w.setCell ⟨b, 2, none⟩ (.int .i64 m')) := (Below.refl B w).setCell (p := ⟨b, 2, none⟩) h.base _
  refine ⟨⟨h.base, h.tab.step hbel, p, v, hp, hb.set 2 _, own_kept ho hS (fun k hk e => own_ne (t' := 75) ho hb (by decide) (by rw [hk, e]))⟩, hbel, fun g t cs _ h2 h3 => h3.far (p := ⟨b, 2, none⟩) h2 _⟩
theorem Pg.margin {B b : Nat} {m : Int} {l : List UInt8} {w : World} (h : Pg B w b m l) : w.cell? ⟨b, 2, none⟩ = some (.int .i64 m) ∧ w.frozen? ⟨b, 2, none⟩ = false := by
  obtain ⟨p, v, hp, hb, _⟩ := h.blk
  exact ⟨hb.cell 2, hb.free 2⟩
theorem lowS {B b : Nat} {w w' : World} (hk : Kp B b w w') {a : Option Addr} {es : List ST} (h : RowS (· < B) w a es) : RowS (· < B) w' a es := h.keep (fun g hg hl => hk.bel.block g hg)
set_option maxHeartbeats 6400000 in
theorem block_any {B b : Nat} (es : List ST) (hE : ∀ s ∈ es, StPg B b s) (hm : es.length ≤ maxLen) (d : Nat) (m : Int) (hd : m = ((2 * d : Nat) : Int)) (l : List UInt8) (a : Option Addr) (c : Nat) (w : World) (hv : RowS (· < B) w a es) (h : Pg B w b m l) (hl : l.length + (blockT es d).length ≤ big) :
    Calls Tryd.prog 64 #[.pointer (some ⟨b, 0, none⟩), .slice a es.length c] w (Said B b m (l ++ blockT es d) (.tuple #[]) w) := by
  unfold blockT at hl
  have h2d : l.length + (2 + ((P.xSs es (d + 1)).length + (2 * d + 1))) ≤ big := by
    simp only [List.length_append, List.length_cons, List.length_nil, P.ind, List.length_replicate] at hl
    omega
  unfold big at h2d
  unfold maxLen at hm
  have HL := Lib.hid h2d
  have HD := Lib.hid hd
  have hm0 : 0 ≤ m := by omega
  have hm1 : m ≤ 10000000000000 := by omega
  have HP := Lib.hid h
  have HV := Lib.hid hv
  have HE := Lib.hid hE
  have x1 : IntKind.i64.wrap (m + 2) = m + 2 := IntWalk.i64_in _ (by omega)
  have HX2 := Lib.hid (show IntKind.i64.wrap (m + 2 - 2) = m by rw [IntWalk.i64_in _ (by omega)]; omega)
  clear h hv hE hl hd h2d
  go_enter Tryd.func64, Tryd.ntmps64
  go_wp2_with fail
  have HS := Lib.hid (say_new (w := w) _ rfl [⟨#[123, 10]⟩] #[.string ⟨#[123, 10]⟩] 1 rfl rfl HP.out (by
    have := HL.out
    show _ + 2 ≤ _
    omega) (by omega))
  rw [show cat [⟨#[123, 10]⟩] = [123, 10] from rfl] at HS
  with_reducible refine HS.out.mono ?_
  rintro e w1 ⟨rfl, hp1, hk1⟩
  have HP1 := Lib.hid hp1
  have HK1 := Lib.hid hk1
  clear hp1 hk1
  obtain ⟨c2, f2⟩ := HP1.out.margin
  have HT := Lib.hid (HP1.out.turn (m + 2))
  go_upto_region 2 with (fail)
  generalize hw2 : w1.setCell ⟨b, 2, none⟩ (.int .i64 (m + 2)) = w2 at *
  have HP2 := Lib.hid HT.out.1
  have HK2 := Lib.hid (HK1.out.trans HT.out.2)
  clear c2 f2 HT x1 hw2
  go_wp2_with fail
  go_loopw [18] (fun t wr => ∃ j : Nat, t = .int .i64 j ∧ j ≤ es.length ∧ Pg B wr b (m + 2) ((l ++ [123, 10]) ++ P.xSs (es.take j) (d + 1)) ∧ Kp B b w wr) (fun t _ => es.length - (intOf t).toNat)
  case atStart => exact ⟨0, rfl, Nat.zero_le _, by simpa [P.xSs] using HP2.out, HK2.out⟩
  case round =>
    obtain ⟨j, rfl, hj, hpg, hkp⟩ := hrel
    have HPG := Lib.hid hpg
    have HKP := Lib.hid hkp
    clear hpg hkp
    by_cases hlt : j < es.length
    · have hra : RowS (· < B) wr a es := lowS HKP.out HV.out
      rcases hra with hz | ⟨ga, oa, hga, hgB, hla⟩
      · rw [hz] at hlt
        simp at hlt
      obtain ⟨x, a0, a1, a2, a3, a4, a5, a6, hx, ha0, ha1, ha2, ha3, ha4, ha5, ha6, hxa⟩ := LSs.at es hla j hlt
      subst hga
      have HTK := Lib.hid (pxSs_take (d + 1) hx)
      have hle := pxSs_le (es := es) (d + 1) (j + 1)
      rw [HTK.out, List.length_append] at hle
      have HLE := Lib.hid hle
      have HS1 := Lib.hid (HE.out x (List.mem_of_getElem? hx))
      obtain ⟨kd, md, rg, lc, ar, th, el⟩ := x
      have hxb := hxa
      unfold LS at hxb
      obtain ⟨aa, caa, at', cat', ae, cae, hva, _⟩ := hxb
      injection hva with hva
      simp only [Array.mk.injEq, List.cons.injEq, and_true] at hva
      obtain ⟨rfl, rfl, rfl, rfl, rfl, rfl, rfl⟩ := hva
      have HXA := Lib.hid hxa
      have p1 : (0 : Int) ≤ (j : Int) := by omega
      have p2 : (j : Int) < (es.length : Int) := by omega
      have HBX := Lib.hid (Blk.new wr 68 #[.int .i64 kd, .int .i64 md, .string (bs rg), .string (bs lc), .slice aa ar.length caa, .slice at' th.length cat', .slice ae el.length cae])
      have HWX := Lib.hid (show Below wr.heap.size wr (wr.alloc (.cells #[.int .i64 kd, .int .i64 md, .string (bs rg), .string (bs lc), .slice aa ar.length caa, .slice at' th.length cat', .slice ae el.length cae] 68)) from (Below.refl _ _).alloc (Nat.le_refl _) _)
      have HPX := Lib.hid (HPG.out.below HWX.out)
      have HKX := Lib.hid (HKP.out.trans (Kp.below HWX.out HPG.out.low))
      clear hla hx hxa hle
      have HC := Lib.hid (HS1.out (d + 1) (m + 2) _ _ _ (by have := HD.out; omega) (LS.keep (fun g hg hl => HWX.out.block g hl) _ HXA.out) HPX.out (by
        have h1 := HL.out
        have h2 := HLE.out
        unfold big
        simp only [List.length_append, List.length_cons, List.length_nil]
        omega) (by
        have h1 := HL.out
        unfold big
        omega))
      go_wp2_with fail
      with_reducible refine HC.out.mono ?_
      rintro e w4 ⟨rfl, hp4, hk4⟩
      go_wp2_with fail
      go_roundw
      case rel => exact ⟨j + 1, by go_num, by omega, by rw [HTK.out, ← List.append_assoc]; exact hp4, HKX.out.trans hk4⟩
      case measure => simp [intOf]; omega
    · have hd1 : decide (j < es.length) = false := by simpa using hlt
      have hd2 : decide ((j : Int) < (es.length : Int)) = false := by simpa using hlt
      obtain rfl : j = es.length := by omega
      have hpe := HPG.out
      rw [List.take_length] at hpe
      have HPE := Lib.hid hpe
      clear hpe HPG
      obtain ⟨c2, f2⟩ := HPE.out.margin
      have HT := Lib.hid (HPE.out.turn m)
      have x2 := HX2.out
      have HI := Lib.hid (indent_any d m HD.out HT.out.1 (by
        have h1 := HL.out
        simp only [List.length_append, List.length_cons, List.length_nil]
        omega))
      go_wp2_with fail
      with_reducible refine HI.out.mono ?_
      rintro e w4 ⟨rfl, hp4, hk4⟩
      clear c2 f2 x2
      go_wp2_with fail
      have HS4 := Lib.hid (say_new (w := w4) _ rfl [⟨#[125]⟩] #[.string ⟨#[125]⟩] 1 rfl rfl hp4 (by
        have h1 := HL.out
        simp only [List.length_append, List.length_cons, List.length_nil, P.ind, List.length_replicate]
        show _ + 1 ≤ _
        omega) (by omega))
      rw [show cat [⟨#[125]⟩] = [125] from rfl] at HS4
      with_reducible refine HS4.out.mono ?_
      rintro e w5 ⟨rfl, hp5, hk5⟩
      go_wp2_with fail
      go_end0
      refine ⟨rfl, ?_, HKP.out.trans (HT.out.2.trans (hk4.trans hk5))⟩
      simp only [List.append_assoc] at hp5
      exact hp5
end Go.Proofs.YtchokfgffnomoaaDoor.Lx
/-
  What a page tells of choices, as contracts.
-/
namespace Go.Proofs.YtchokfgffnomoaaDoor.Lx
open Go.RowKit
open P (EX CO ST)
set_option maxRecDepth 100000
set_option linter.unusedVariables false
set_option linter.unusedSimpArgs false
set_option maxHeartbeats 6400000 in
theorem choice_s {B b : Nat} (md : Int) (rg lc : List UInt8) (ar : List EX) (th el : List ST) (hE : ∀ e ∈ ar, ExOk B b e) (hT : ∀ s ∈ th, StPg B b s) (hS : ∀ s ∈ el, StPg B b s) (d : Nat) (m : Int) (hd : m = ((2 * d : Nat) : Int)) (l : List UInt8) (v : Value) (w : World) (hv : LS (· < B) w v (.mk 7 md rg lc ar th el)) (h : Pg B w b m l) (hl : l.length + (choiceT ar th el d).length ≤ big) :
    Calls Tryd.prog 110 #[.pointer (some ⟨b, 0, none⟩), v] w (Said B b m (l ++ choiceT ar th el d) (.tuple #[]) w) := by
  unfold LS at hv
  obtain ⟨aa, ca, at', ct, ae, ce, rfl, m1, m2, m3, x1, x2, x3⟩ := hv
  have HX := Lib.hid (show IsXs (· < B) w (.slice aa ar.length ca) ar from ⟨aa, ca, rfl, m1, x1⟩)
  have HX2 := Lib.hid (show RowS (· < B) w at' th from x2)
  have HX3 := Lib.hid (show RowS (· < B) w ae el from x3)
  have HM2 := Lib.hid m2
  have HM3 := Lib.hid m3
  have HD := Lib.hid hd
  have HE := Lib.hid hE
  have HT := Lib.hid hT
  have HZ := Lib.hid hS
  have HB := Lib.hid (Blk.new w 68 #[.int .i64 7, .int .i64 md, .string (bs rg), .string (bs lc), .slice aa ar.length ca, .slice at' th.length ct, .slice ae el.length ce])
  have HW := Lib.hid (show Below w.heap.size w (w.alloc (.cells #[.int .i64 7, .int .i64 md, .string (bs rg), .string (bs lc), .slice aa ar.length ca, .slice at' th.length ct, .slice ae el.length ce] 68)) from (Below.refl _ _).alloc (Nat.le_refl _) _)
  have HK := Lib.hid (show Kp B b w _ from Kp.below HW.out h.low)
  have HP := Lib.hid (h.below HW.out)
  have HN := Lib.hid (show w.heap.size ≠ b from by have := h.lt; omega)
  unfold choiceT at hl
  have HL := Lib.hid hl
  clear hE hT hS hl h hd x1 x2 x3 m1 m2 m3
  by_cases he : el = []
  all_goals
    have HEL := Lib.hid he
  · have hc0 : decide ((0 : Int) < (el.length : Int)) = false := by simp [he]
    have hc1 : decide (0 < el.length) = false := by simp [he]
    have HL := Lib.hid (show l.length + ([105, 102, 32] ++ (kidT ar 0 ++ ([32] ++ blockT th d))).length ≤ big from by
      have := HL.out
      rw [if_pos HEL.out, List.append_nil] at this
      exact this)
    clear he
    go_enter Tryd.func110, Tryd.ntmps110
    go_upto_region 1 with (fail)
    generalize w.alloc (.cells #[.int .i64 7, .int .i64 md, .string (bs rg), .string (bs lc), .slice aa ar.length ca, .slice at' th.length ct, .slice ae el.length ce] 68) = w1 at *
    obtain ⟨s0, s1, s2, s3, s4, s5, s6, _, _, _, _, _, _, _⟩ := seven_free HB.out
    have HS1 := Lib.hid (say_new (w := w1) _ rfl [⟨#[105, 102, 32]⟩] #[.string ⟨#[105, 102, 32]⟩] 1 rfl rfl HP.out (by
      show _ + 3 ≤ _
      have h9 := HL.out
      simp only [List.length_append, List.length_cons, List.length_nil] at h9 ⊢
      unfold big at h9
      omega) (by omega))
    rw [show cat [⟨#[105, 102, 32]⟩] = [105, 102, 32] from rfl] at HS1
    go_wp2_with fail
    with_reducible refine HS1.out.mono ?_
    rintro e w2 ⟨rfl, hp2, hk2⟩
    have HP2 := Lib.hid hp2
    have HK2 := Lib.hid (HK.out.trans hk2)
    have HB2 := Lib.hid (hk2.blk _ _ _ (by decide) HN.out HB.out)
    clear hp2 hk2
    obtain ⟨s0, s1, s2, s3, s4, s5, s6, _, _, _, _, _, _, _⟩ := seven_free HB2.out
    have HA2 := Lib.hid (at_x ar 0 0 rfl HE.out m _ (.slice aa ar.length ca) w2 (lowX HK2.out HX.out) HP2.out (by have h9 := HL.out; simp only [List.length_append, List.length_cons, List.length_nil] at h9 ⊢; unfold big at *; omega))
    go_wp2_with fail
    with_reducible refine HA2.out.mono ?_
    rintro e w3 ⟨rfl, hp3, hk3⟩
    have HP3 := Lib.hid hp3
    have HK3 := Lib.hid (HK2.out.trans hk3)
    have HB3 := Lib.hid (hk3.blk _ _ _ (by decide) HN.out HB2.out)
    clear hp3 hk3
    obtain ⟨s0, s1, s2, s3, s4, s5, s6, _, _, _, _, _, _, _⟩ := seven_free HB3.out
    have HS3 := Lib.hid (say_new (w := w3) _ rfl [⟨#[32]⟩] #[.string ⟨#[32]⟩] 1 rfl rfl HP3.out (by
      show _ + 1 ≤ _
      have h9 := HL.out
      simp only [List.length_append, List.length_cons, List.length_nil] at h9 ⊢
      unfold big at h9
      omega) (by omega))
    rw [show cat [⟨#[32]⟩] = [32] from rfl] at HS3
    go_wp2_with fail
    with_reducible refine HS3.out.mono ?_
    rintro e w4 ⟨rfl, hp4, hk4⟩
    have HP4 := Lib.hid hp4
    have HK4 := Lib.hid (HK3.out.trans hk4)
    have HB4 := Lib.hid (hk4.blk _ _ _ (by decide) HN.out HB3.out)
    clear hp4 hk4
    obtain ⟨s0, s1, s2, s3, s4, s5, s6, _, _, _, _, _, _, _⟩ := seven_free HB4.out
    have HA4 := Lib.hid (block_any th HT.out HM2.out d m HD.out _ at' ct w4 (lowS HK4.out HX2.out) HP4.out (by have h9 := HL.out; simp only [List.length_append, List.length_cons, List.length_nil] at h9 ⊢; unfold big at *; omega))
    go_wp2_with fail
    with_reducible refine HA4.out.mono ?_
    rintro e w5 ⟨rfl, hp5, hk5⟩
    have HP5 := Lib.hid hp5
    have HK5 := Lib.hid (HK4.out.trans hk5)
    have HB5 := Lib.hid (hk5.blk _ _ _ (by decide) HN.out HB4.out)
    clear hp5 hk5
    obtain ⟨s0, s1, s2, s3, s4, s5, s6, _, _, _, _, _, _, _⟩ := seven_free HB5.out
    go_wp2_with fail
    go_end0
    refine ⟨rfl, ?_, HK5.out⟩
    have h9 := HP5.out
    simp only [List.append_assoc] at h9
    unfold choiceT
    rw [if_pos HEL.out, List.append_nil]
    exact h9
  · have hpos : 0 < el.length := List.length_pos_iff.2 he
    have hc0 : decide ((0 : Int) < (el.length : Int)) = true := by simp; omega
    have hc1 : decide (0 < el.length) = true := by simp; omega
    have HL := Lib.hid (show l.length + ([105, 102, 32] ++ (kidT ar 0 ++ ([32] ++ (blockT th d ++ ([32, 101, 108, 115, 101, 32] ++ blockT el d))))).length ≤ big from by
      have := HL.out
      rw [if_neg HEL.out] at this
      exact this)
    clear he
    go_enter Tryd.func110, Tryd.ntmps110
    go_upto_region 1 with (fail)
    generalize w.alloc (.cells #[.int .i64 7, .int .i64 md, .string (bs rg), .string (bs lc), .slice aa ar.length ca, .slice at' th.length ct, .slice ae el.length ce] 68) = w1 at *
    obtain ⟨s0, s1, s2, s3, s4, s5, s6, _, _, _, _, _, _, _⟩ := seven_free HB.out
    have HS1 := Lib.hid (say_new (w := w1) _ rfl [⟨#[105, 102, 32]⟩] #[.string ⟨#[105, 102, 32]⟩] 1 rfl rfl HP.out (by
      show _ + 3 ≤ _
      have h9 := HL.out
      simp only [List.length_append, List.length_cons, List.length_nil] at h9 ⊢
      unfold big at h9
      omega) (by omega))
    rw [show cat [⟨#[105, 102, 32]⟩] = [105, 102, 32] from rfl] at HS1
    go_wp2_with fail
    with_reducible refine HS1.out.mono ?_
    rintro e w2 ⟨rfl, hp2, hk2⟩
    have HP2 := Lib.hid hp2
    have HK2 := Lib.hid (HK.out.trans hk2)
    have HB2 := Lib.hid (hk2.blk _ _ _ (by decide) HN.out HB.out)
    clear hp2 hk2
    obtain ⟨s0, s1, s2, s3, s4, s5, s6, _, _, _, _, _, _, _⟩ := seven_free HB2.out
    have HA2 := Lib.hid (at_x ar 0 0 rfl HE.out m _ (.slice aa ar.length ca) w2 (lowX HK2.out HX.out) HP2.out (by have h9 := HL.out; simp only [List.length_append, List.length_cons, List.length_nil] at h9 ⊢; unfold big at *; omega))
    go_wp2_with fail
    with_reducible refine HA2.out.mono ?_
    rintro e w3 ⟨rfl, hp3, hk3⟩
    have HP3 := Lib.hid hp3
    have HK3 := Lib.hid (HK2.out.trans hk3)
    have HB3 := Lib.hid (hk3.blk _ _ _ (by decide) HN.out HB2.out)
    clear hp3 hk3
    obtain ⟨s0, s1, s2, s3, s4, s5, s6, _, _, _, _, _, _, _⟩ := seven_free HB3.out
    have HS3 := Lib.hid (say_new (w := w3) _ rfl [⟨#[32]⟩] #[.string ⟨#[32]⟩] 1 rfl rfl HP3.out (by
      show _ + 1 ≤ _
      have h9 := HL.out
      simp only [List.length_append, List.length_cons, List.length_nil] at h9 ⊢
      unfold big at h9
      omega) (by omega))
    rw [show cat [⟨#[32]⟩] = [32] from rfl] at HS3
    go_wp2_with fail
    with_reducible refine HS3.out.mono ?_
    rintro e w4 ⟨rfl, hp4, hk4⟩
    have HP4 := Lib.hid hp4
    have HK4 := Lib.hid (HK3.out.trans hk4)
    have HB4 := Lib.hid (hk4.blk _ _ _ (by decide) HN.out HB3.out)
    clear hp4 hk4
    obtain ⟨s0, s1, s2, s3, s4, s5, s6, _, _, _, _, _, _, _⟩ := seven_free HB4.out
    have HA4 := Lib.hid (block_any th HT.out HM2.out d m HD.out _ at' ct w4 (lowS HK4.out HX2.out) HP4.out (by have h9 := HL.out; simp only [List.length_append, List.length_cons, List.length_nil] at h9 ⊢; unfold big at *; omega))
    go_wp2_with fail
    with_reducible refine HA4.out.mono ?_
    rintro e w5 ⟨rfl, hp5, hk5⟩
    have HP5 := Lib.hid hp5
    have HK5 := Lib.hid (HK4.out.trans hk5)
    have HB5 := Lib.hid (hk5.blk _ _ _ (by decide) HN.out HB4.out)
    clear hp5 hk5
    obtain ⟨s0, s1, s2, s3, s4, s5, s6, _, _, _, _, _, _, _⟩ := seven_free HB5.out
    have HS5 := Lib.hid (say_new (w := w5) _ rfl [⟨#[32, 101, 108, 115, 101, 32]⟩] #[.string ⟨#[32, 101, 108, 115, 101, 32]⟩] 1 rfl rfl HP5.out (by
      show _ + 6 ≤ _
      have h9 := HL.out
      simp only [List.length_append, List.length_cons, List.length_nil] at h9 ⊢
      unfold big at h9
      omega) (by omega))
    rw [show cat [⟨#[32, 101, 108, 115, 101, 32]⟩] = [32, 101, 108, 115, 101, 32] from rfl] at HS5
    go_wp2_with fail
    with_reducible refine HS5.out.mono ?_
    rintro e w6 ⟨rfl, hp6, hk6⟩
    have HP6 := Lib.hid hp6
    have HK6 := Lib.hid (HK5.out.trans hk6)
    have HB6 := Lib.hid (hk6.blk _ _ _ (by decide) HN.out HB5.out)
    clear hp6 hk6
    obtain ⟨s0, s1, s2, s3, s4, s5, s6, _, _, _, _, _, _, _⟩ := seven_free HB6.out
    have HA6 := Lib.hid (block_any el HZ.out HM3.out d m HD.out _ ae ce w6 (lowS HK6.out HX3.out) HP6.out (by have h9 := HL.out; simp only [List.length_append, List.length_cons, List.length_nil] at h9 ⊢; unfold big at *; omega))
    go_wp2_with fail
    with_reducible refine HA6.out.mono ?_
    rintro e w7 ⟨rfl, hp7, hk7⟩
    have HP7 := Lib.hid hp7
    have HK7 := Lib.hid (HK6.out.trans hk7)
    have HB7 := Lib.hid (hk7.blk _ _ _ (by decide) HN.out HB6.out)
    clear hp7 hk7
    obtain ⟨s0, s1, s2, s3, s4, s5, s6, _, _, _, _, _, _, _⟩ := seven_free HB7.out
    go_wp2_with fail
    go_end0
    refine ⟨rfl, ?_, HK7.out⟩
    have h9 := HP7.out
    simp only [List.append_assoc] at h9
    unfold choiceT
    rw [if_neg HEL.out]
    exact h9
end Go.Proofs.YtchokfgffnomoaaDoor.Lx
