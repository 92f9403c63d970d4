/-
  What a page tells of modes, margins and statements without statements, as contracts.
-/
import Derived.Test.YtchokfgffnomoaaDoorSHX
import Derived.Test.YtchokfgffnomoaaDoorPSameS
namespace Go.Proofs.YtchokfgffnomoaaDoor.Lx
open Go.RowKit
open P (EX CO ST)
set_option maxRecDepth 100000
set_option linter.unusedVariables false
set_option linter.unusedSimpArgs false
set_option maxHeartbeats 1600000 in
theorem mode_is (k : Int) (w : World) : Calls Tryd.prog 18 #[.int .i64 k] w (fun e w' => e = .returned (.string (bs (P.xM k))) ∧ w = w') := by
  by_cases h0 : k = 0
  · subst h0
    rw [show bs (P.xM 0) = ⟨#[114, 108, 120]⟩ from rfl]
    go_enter Tryd.func18, Tryd.ntmps18
    go_wp2_with fail
    go_ret
    exact ⟨rfl, rfl⟩
  by_cases h1 : k = 1
  · subst h1
    rw [show bs (P.xM 1) = ⟨#[97, 99, 113]⟩ from rfl]
    go_enter Tryd.func18, Tryd.ntmps18
    go_wp2_with fail
    go_ret
    exact ⟨rfl, rfl⟩
  by_cases h2 : k = 2
  · subst h2
    rw [show bs (P.xM 2) = ⟨#[114, 101, 108]⟩ from rfl]
    go_enter Tryd.func18, Tryd.ntmps18
    go_wp2_with fail
    go_ret
    exact ⟨rfl, rfl⟩
  by_cases h3 : k = 3
  · subst h3
    rw [show bs (P.xM 3) = ⟨#[97, 99, 113, 114, 101, 108]⟩ from rfl]
    go_enter Tryd.func18, Tryd.ntmps18
    go_wp2_with fail
    go_ret
    exact ⟨rfl, rfl⟩
  by_cases h4 : k = 4
  · subst h4
    rw [show bs (P.xM 4) = ⟨#[115, 99]⟩ from rfl]
    go_enter Tryd.func18, Tryd.ntmps18
    go_wp2_with fail
    go_ret
    exact ⟨rfl, rfl⟩
  have e0 : (k == 0) = false := by simp; omega
  have e1 : (k == 1) = false := by simp; omega
  have e2 : (k == 2) = false := by simp; omega
  have e3 : (k == 3) = false := by simp; omega
  have e4 : (k == 4) = false := by simp; omega
  rw [show P.xM k = [] from if_neg (by omega), show bs [] = ⟨#[]⟩ from rfl]
  clear h0 h1 h2 h3 h4
  go_enter Tryd.func18, Tryd.ntmps18
  go_wp2_with fail
  go_ret
  exact ⟨rfl, rfl⟩
theorem rep_ind (d : Nat) : Lib.repeatL [32] (2 * d) = P.ind d := by
  have key : ∀ n : Nat, Lib.repeatL [32] n = List.replicate n 32 := fun n => by
    induction n with
    | zero => rfl
    | succ n ih => simp [Lib.repeatL, ih, List.replicate_succ]
  exact key _
set_option maxHeartbeats 1600000 in
theorem indent_any {B b : Nat} (d : Nat) {l : List UInt8} {w : World} (m : Int) (hm : m = ((2 * d : Nat) : Int)) (h : Pg B w b m l) (hl : l.length + 2 * d ≤ 100000000000000) :
    Calls Tryd.prog 86 #[.pointer (some ⟨b, 0, none⟩)] w (Said B b m (l ++ P.ind d) (.tuple #[]) w) := by
  have HP := Lib.hid h
  have HR := Lib.hid (show Calls Tryd.prog 97 #[.string ⟨#[32]⟩, .int .i64 m] w (fun e w' => e = .returned (.string (bs (P.ind d))) ∧ Below w.heap.size w w') from by
    rw [hm, show bs (P.ind d) = ⟨(Lib.repeatL [32] (2 * d)).toArray⟩ by rw [rep_ind]; rfl]
    exact Any.strings_Repeat Tryd.lays105 Tryd.Builder_Extra_105 ⟨#[32]⟩ (2 * d) w (by omega) (by
      show 1 * (2 * d) ≤ _
      omega))
  clear hm
  obtain ⟨p, v, hp, hb, _⟩ := h.blk
  have c2 : w.cell? ⟨b, 2, none⟩ = some (.int .i64 m) := hb.cell 2
  clear h hb hp
  go_enter Tryd.func86, Tryd.ntmps86
  go_wp2_with fail
  with_reducible refine HR.out.mono ?_
  rintro e w1 ⟨rfl, hb⟩
  have HS := Lib.hid (say_new (w := w1) _ rfl [bs (P.ind d)] #[.string (bs (P.ind d))] 1 rfl rfl (HP.out.below hb) (by
    simp [cat, by_bs, P.ind]
    omega) (by simp))
  rw [show cat [bs (P.ind d)] = P.ind d by simp [cat, by_bs]] at HS
  have HK := Lib.hid (Kp.below hb HP.out.low : Kp B b w w1)
  clear hb
  go_wp2_with fail
  with_reducible refine HS.out.mono ?_
  rintro e w2 ⟨rfl, hp2, hk2⟩
  go_wp2_with fail
  go_end0
  exact ⟨rfl, hp2, HK.out.trans hk2⟩

/-- say of a slice that was just made, at a drawn place. -/
theorem say_drew {B b : Nat} {m : Int} {l : List UInt8} {w : World} (g : Nat) (hg : g = w.heap.size) (ss : List ByteArray) (cs : Array Value) (n : Nat) (hcs : cs = pstrs ss) (hn : n = ss.length) (h : Pg B w b m l) (hl : l.length + (cat ss).length ≤ 140737488355328) (h1 : n ≤ 1000) :
    Calls Tryd.prog 49 #[.pointer (some ⟨b, 0, none⟩), .slice (some ⟨g, 0, none⟩) n n] (w.alloc (.cells cs 9)).drew (Said B b m (l ++ cat ss) (.tuple #[]) w) := by
  subst hcs hn hg
  have hb : Blk (w.alloc (.cells (pstrs ss) 9)).drew w.heap.size 9 (pstrs ss) := Blk.new w 9 (pstrs ss)
  refine (say_any ss ss.length (h.alloc _).drew hb hl h1).mono ?_
  rintro e w' ⟨rfl, h2, h3⟩
  exact ⟨rfl, h2, (Kp.refl.alloc h.low _).drew.trans h3⟩
/-- Its text, but for the margin and the line's end. -/
def setT (md : Int) (rg lc : List UInt8) (ar : List EX) : List UInt8 := (rg ++ ([32, 61, 32] ++ ((kidT ar 0) ++ [59])))
set_option maxHeartbeats 6400000 in
theorem set_s {B b : Nat} (md : Int) (rg lc : List UInt8) (ar : List EX) (th el : List ST) (hE : ∀ e ∈ ar, ExOk B b e) (m : Int) (l : List UInt8) (v : Value) (w : World) (hv : LS (· < B) w v (.mk 1 md rg lc ar th el)) (h : Pg B w b m l) (hl : l.length + (setT md rg lc ar).length ≤ big) :
    Calls Tryd.prog 104 #[.pointer (some ⟨b, 0, none⟩), v] w (Said B b m (l ++ setT md rg lc ar) (.tuple #[]) w) := by
  unfold LS at hv
  obtain ⟨aa, ca, at', ct, ae, ce, rfl, m1, m2, m3, x1, x2, x3⟩ := hv
  have HX := Lib.hid (show IsXs (· < B) w (.slice aa ar.length ca) ar from ⟨aa, ca, rfl, m1, x1⟩)
  have HE := Lib.hid hE
  have HB := Lib.hid (Blk.new w 68 #[.int .i64 1, .int .i64 md, .string (bs rg), .string (bs lc), .slice aa ar.length ca, .slice at' th.length ct, .slice ae el.length ce])
  have HW := Lib.hid (show Below w.heap.size w (w.alloc (.cells #[.int .i64 1, .int .i64 md, .string (bs rg), .string (bs lc), .slice aa ar.length ca, .slice at' th.length ct, .slice ae el.length ce] 68)) from (Below.refl _ _).alloc (Nat.le_refl _) _)
  have HK := Lib.hid (show Kp B b w _ from Kp.below HW.out h.low)
  have HP := Lib.hid (h.below HW.out)
  have HN := Lib.hid (show w.heap.size ≠ b from by have := h.lt; omega)
  unfold setT at hl
  have HL := Lib.hid hl
  clear hE hl h x1 x2 x3 m1 m2 m3
  go_enter Tryd.func104, Tryd.ntmps104
  go_upto_region 1 with (fail)
  generalize w.alloc (.cells #[.int .i64 1, .int .i64 md, .string (bs rg), .string (bs lc), .slice aa ar.length ca, .slice at' th.length ct, .slice ae el.length ce] 68) = w1 at *
  obtain ⟨s0, s1, s2, s3, s4, s5, s6, _, _, _, _, _, _, _⟩ := seven_free HB.out
  have HS1 := Lib.hid (say_new (w := w1) _ rfl [bs rg, ⟨#[32, 61, 32]⟩] #[.string (bs rg), .string ⟨#[32, 61, 32]⟩] 2 rfl rfl HP.out (by rw [show cat [bs rg, ⟨#[32, 61, 32]⟩] = (rg ++ [32, 61, 32]) from by simp only [cat, List.map_cons, List.map_nil, List.flatten_cons, List.flatten_nil, by_bs, List.append_nil] <;> rfl]; exact (by have h9 := HL.out; simp only [List.length_append, List.length_cons, List.length_nil] at h9 ⊢; unfold big at *; omega)) (by omega))
  rw [show cat [bs rg, ⟨#[32, 61, 32]⟩] = (rg ++ [32, 61, 32]) from by simp only [cat, List.map_cons, List.map_nil, List.flatten_cons, List.flatten_nil, by_bs, List.append_nil] <;> rfl] at HS1
  go_wp2_with fail
  with_reducible refine HS1.out.mono ?_
  rintro e w2 ⟨rfl, hp2, hk2⟩
  have HP2 := Lib.hid hp2
  have HK2 := Lib.hid (HK.out.trans hk2)
  have HB2 := Lib.hid (hk2.blk _ _ _ (by decide) HN.out HB.out)
  clear hp2 hk2
  obtain ⟨s0, s1, s2, s3, s4, s5, s6, _, _, _, _, _, _, _⟩ := seven_free HB2.out
  have HA2 := Lib.hid (at_x ar 0 0 rfl HE.out m _ (.slice aa ar.length ca) w2 (lowX HK2.out HX.out) HP2.out (by have h9 := HL.out; simp only [List.length_append, List.length_cons, List.length_nil] at h9 ⊢; unfold big at *; omega))
  go_wp2_with fail
  with_reducible refine HA2.out.mono ?_
  rintro e w3 ⟨rfl, hp3, hk3⟩
  have HP3 := Lib.hid hp3
  have HK3 := Lib.hid (HK2.out.trans hk3)
  have HB3 := Lib.hid (hk3.blk _ _ _ (by decide) HN.out HB2.out)
  clear hp3 hk3
  obtain ⟨s0, s1, s2, s3, s4, s5, s6, _, _, _, _, _, _, _⟩ := seven_free HB3.out
  have HS3 := Lib.hid (say_new (w := w3) _ rfl [⟨#[59]⟩] #[.string ⟨#[59]⟩] 1 rfl rfl HP3.out (by rw [show cat [⟨#[59]⟩] = [59] from by simp only [cat, List.map_cons, List.map_nil, List.flatten_cons, List.flatten_nil, by_bs, List.append_nil] <;> rfl]; exact (by have h9 := HL.out; simp only [List.length_append, List.length_cons, List.length_nil] at h9 ⊢; unfold big at *; omega)) (by omega))
  rw [show cat [⟨#[59]⟩] = [59] from by simp only [cat, List.map_cons, List.map_nil, List.flatten_cons, List.flatten_nil, by_bs, List.append_nil] <;> rfl] at HS3
  go_wp2_with fail
  with_reducible refine HS3.out.mono ?_
  rintro e w4 ⟨rfl, hp4, hk4⟩
  have HP4 := Lib.hid hp4
  have HK4 := Lib.hid (HK3.out.trans hk4)
  have HB4 := Lib.hid (hk4.blk _ _ _ (by decide) HN.out HB3.out)
  clear hp4 hk4
  obtain ⟨s0, s1, s2, s3, s4, s5, s6, _, _, _, _, _, _, _⟩ := seven_free HB4.out
  go_wp2_with fail
  go_end0
  refine ⟨rfl, ?_, HK4.out⟩
  have h9 := HP4.out
  try simp only [List.append_assoc] at h9
  exact h9
/-- Its text, but for the margin and the line's end. -/
def loadT (md : Int) (rg lc : List UInt8) (ar : List EX) : List UInt8 := (rg ++ ([32, 61, 32, 108, 111, 97, 100, 32] ++ ((P.xM md) ++ ([32] ++ (lc ++ [59])))))
set_option maxHeartbeats 6400000 in
theorem load_s {B b : Nat} (md : Int) (rg lc : List UInt8) (ar : List EX) (th el : List ST) (hE : ∀ e ∈ ar, ExOk B b e) (m : Int) (l : List UInt8) (v : Value) (w : World) (hv : LS (· < B) w v (.mk 2 md rg lc ar th el)) (h : Pg B w b m l) (hl : l.length + (loadT md rg lc ar).length ≤ big) :
    Calls Tryd.prog 105 #[.pointer (some ⟨b, 0, none⟩), v] w (Said B b m (l ++ loadT md rg lc ar) (.tuple #[]) w) := by
  unfold LS at hv
  obtain ⟨aa, ca, at', ct, ae, ce, rfl, m1, m2, m3, x1, x2, x3⟩ := hv
  have HX := Lib.hid (show IsXs (· < B) w (.slice aa ar.length ca) ar from ⟨aa, ca, rfl, m1, x1⟩)
  have HE := Lib.hid hE
  have HB := Lib.hid (Blk.new w 68 #[.int .i64 2, .int .i64 md, .string (bs rg), .string (bs lc), .slice aa ar.length ca, .slice at' th.length ct, .slice ae el.length ce])
  have HW := Lib.hid (show Below w.heap.size w (w.alloc (.cells #[.int .i64 2, .int .i64 md, .string (bs rg), .string (bs lc), .slice aa ar.length ca, .slice at' th.length ct, .slice ae el.length ce] 68)) from (Below.refl _ _).alloc (Nat.le_refl _) _)
  have HK := Lib.hid (show Kp B b w _ from Kp.below HW.out h.low)
  have HP := Lib.hid (h.below HW.out)
  have HN := Lib.hid (show w.heap.size ≠ b from by have := h.lt; omega)
  unfold loadT at hl
  have HL := Lib.hid hl
  clear hE hl h x1 x2 x3 m1 m2 m3
  go_enter Tryd.func105, Tryd.ntmps105
  go_upto_region 1 with (fail)
  generalize w.alloc (.cells #[.int .i64 2, .int .i64 md, .string (bs rg), .string (bs lc), .slice aa ar.length ca, .slice at' th.length ct, .slice ae el.length ce] 68) = w1 at *
  obtain ⟨s0, s1, s2, s3, s4, s5, s6, _, _, _, _, _, _, _⟩ := seven_free HB.out
  have HS1 := Lib.hid (say_drew (w := w1) _ rfl [bs rg, ⟨#[32, 61, 32, 108, 111, 97, 100, 32]⟩, bs (P.xM md), ⟨#[32]⟩, bs lc, ⟨#[59]⟩] #[.string (bs rg), .string ⟨#[32, 61, 32, 108, 111, 97, 100, 32]⟩, .string (bs (P.xM md)), .string ⟨#[32]⟩, .string (bs lc), .string ⟨#[59]⟩] 6 rfl rfl HP.out (by rw [show cat [bs rg, ⟨#[32, 61, 32, 108, 111, 97, 100, 32]⟩, bs (P.xM md), ⟨#[32]⟩, bs lc, ⟨#[59]⟩] = (rg ++ ([32, 61, 32, 108, 111, 97, 100, 32] ++ ((P.xM md) ++ ([32] ++ (lc ++ [59]))))) from by simp only [cat, List.map_cons, List.map_nil, List.flatten_cons, List.flatten_nil, by_bs, List.append_nil] <;> rfl]; exact (by have h9 := HL.out; simp only [List.length_append, List.length_cons, List.length_nil] at h9 ⊢; unfold big at *; omega)) (by omega))
  rw [show cat [bs rg, ⟨#[32, 61, 32, 108, 111, 97, 100, 32]⟩, bs (P.xM md), ⟨#[32]⟩, bs lc, ⟨#[59]⟩] = (rg ++ ([32, 61, 32, 108, 111, 97, 100, 32] ++ ((P.xM md) ++ ([32] ++ (lc ++ [59]))))) from by simp only [cat, List.map_cons, List.map_nil, List.flatten_cons, List.flatten_nil, by_bs, List.append_nil] <;> rfl] at HS1
  go_region_with (first
    | (go_at_call 18; (with_reducible refine (mode_is _ _).mono ?_); rintro e w9 ⟨rfl, rfl⟩)
    | (go_at_call 49; (with_reducible refine HS1.out.mono ?_); rintro e w2 ⟨rfl, hp2, hk2⟩))
  all_goals
    go_end0
    refine ⟨rfl, hp2, HK.out.trans hk2⟩
/-- Its text, but for the margin and the line's end. -/
def fenceT (md : Int) (rg lc : List UInt8) (ar : List EX) : List UInt8 := ([102, 101, 110, 99, 101, 32] ++ ((P.xM md) ++ [59]))
set_option maxHeartbeats 6400000 in
theorem fence_s {B b : Nat} (md : Int) (rg lc : List UInt8) (ar : List EX) (th el : List ST) (hE : ∀ e ∈ ar, ExOk B b e) (m : Int) (l : List UInt8) (v : Value) (w : World) (hv : LS (· < B) w v (.mk 6 md rg lc ar th el)) (h : Pg B w b m l) (hl : l.length + (fenceT md rg lc ar).length ≤ big) :
    Calls Tryd.prog 109 #[.pointer (some ⟨b, 0, none⟩), v] w (Said B b m (l ++ fenceT md rg lc ar) (.tuple #[]) w) := by
  unfold LS at hv
  obtain ⟨aa, ca, at', ct, ae, ce, rfl, m1, m2, m3, x1, x2, x3⟩ := hv
  have HX := Lib.hid (show IsXs (· < B) w (.slice aa ar.length ca) ar from ⟨aa, ca, rfl, m1, x1⟩)
  have HE := Lib.hid hE
  have HB := Lib.hid (Blk.new w 68 #[.int .i64 6, .int .i64 md, .string (bs rg), .string (bs lc), .slice aa ar.length ca, .slice at' th.length ct, .slice ae el.length ce])
  have HW := Lib.hid (show Below w.heap.size w (w.alloc (.cells #[.int .i64 6, .int .i64 md, .string (bs rg), .string (bs lc), .slice aa ar.length ca, .slice at' th.length ct, .slice ae el.length ce] 68)) from (Below.refl _ _).alloc (Nat.le_refl _) _)
  have HK := Lib.hid (show Kp B b w _ from Kp.below HW.out h.low)
  have HP := Lib.hid (h.below HW.out)
  have HN := Lib.hid (show w.heap.size ≠ b from by have := h.lt; omega)
  unfold fenceT at hl
  have HL := Lib.hid hl
  clear hE hl h x1 x2 x3 m1 m2 m3
  go_enter Tryd.func109, Tryd.ntmps109
  go_upto_region 1 with (fail)
  generalize w.alloc (.cells #[.int .i64 6, .int .i64 md, .string (bs rg), .string (bs lc), .slice aa ar.length ca, .slice at' th.length ct, .slice ae el.length ce] 68) = w1 at *
  obtain ⟨s0, s1, s2, s3, s4, s5, s6, _, _, _, _, _, _, _⟩ := seven_free HB.out
  have HS1 := Lib.hid (say_new (w := w1) _ rfl [⟨#[102, 101, 110, 99, 101, 32]⟩, bs (P.xM md), ⟨#[59]⟩] #[.string ⟨#[102, 101, 110, 99, 101, 32]⟩, .string (bs (P.xM md)), .string ⟨#[59]⟩] 3 rfl rfl HP.out (by rw [show cat [⟨#[102, 101, 110, 99, 101, 32]⟩, bs (P.xM md), ⟨#[59]⟩] = ([102, 101, 110, 99, 101, 32] ++ ((P.xM md) ++ [59])) from by simp only [cat, List.map_cons, List.map_nil, List.flatten_cons, List.flatten_nil, by_bs, List.append_nil] <;> rfl]; exact (by have h9 := HL.out; simp only [List.length_append, List.length_cons, List.length_nil] at h9 ⊢; unfold big at *; omega)) (by omega))
  rw [show cat [⟨#[102, 101, 110, 99, 101, 32]⟩, bs (P.xM md), ⟨#[59]⟩] = ([102, 101, 110, 99, 101, 32] ++ ((P.xM md) ++ [59])) from by simp only [cat, List.map_cons, List.map_nil, List.flatten_cons, List.flatten_nil, by_bs, List.append_nil] <;> rfl] at HS1
  go_wp2_with fail
  with_reducible refine (mode_is md w1).mono ?_
  rintro e w9 ⟨rfl, rfl⟩
  go_wp2_with fail
  with_reducible refine HS1.out.mono ?_
  rintro e w2 ⟨rfl, hp2, hk2⟩
  have HP2 := Lib.hid hp2
  have HK2 := Lib.hid (HK.out.trans hk2)
  have HB2 := Lib.hid (hk2.blk _ _ _ (by decide) HN.out HB.out)
  clear hp2 hk2
  obtain ⟨s0, s1, s2, s3, s4, s5, s6, _, _, _, _, _, _, _⟩ := seven_free HB2.out
  go_wp2_with fail
  go_end0
  refine ⟨rfl, ?_, HK2.out⟩
  have h9 := HP2.out
  try simp only [List.append_assoc] at h9
  exact h9
end Go.Proofs.YtchokfgffnomoaaDoor.Lx
