/-
  What Expr of the document's answer tells, as a contract: an expression's text.
-/
import Derived.Test.YtchokfgffnomoaaDoorLDig
import Derived.Test.YtchokfgffnomoaaDoorPSame
import Derived.Test.YtchokfgffnomoaaDoorSA
import Derived.Deep.RegionHeld3
import Derived.Test.YtchokfgffnomoaaDoorPSameC
namespace Go.Proofs.YtchokfgffnomoaaDoor.Lx
open Go.RowKit
open L (Tok)
open P (EX CO ST TX)
set_option maxRecDepth 100000
set_option linter.unusedVariables false
set_option linter.unusedSimpArgs false
set_option maxHeartbeats 1600000 in
theorem kid_at (F : ByteArray) (i : Nat) (es : List EX) (e : EX) (g off cap : Nat) (Q : Nat → Prop) (w : World) (hl : LXs Q w g off es) (he : es[i]? = some e) (hm : es.length ≤ 1000) (hi : i < es.length)
    (hEx : ∀ v w', LX Q w' v e → Calls Tryd.prog 15 #[v] w' (TextTo F w')) :
    Calls Tryd.prog 38 #[.slice (some ⟨g, off, none⟩) es.length cap, .int .i64 (i : Nat)] w (TextTo F w) := by
  obtain ⟨x, a0, a1, a2, a3, hx, h0, h1, h2, h3, hlx⟩ := LXs.at es hl i hi
  obtain rfl : x = e := by rw [he] at hx; exact (Option.some.inj hx).symm
  have HE := Lib.hid (hEx _ w hlx)
  clear hl he hx hlx hEx
  have m1 : (0 : Int) ≤ (i : Int) := by omega
  have m2 : (i : Int) < (es.length : Int) := by omega
  have d1 : decide ((es.length : Int) ≤ (i : Int)) = false := by simp; omega
  have d2 : decide (es.length ≤ i) = false := by simp; omega
  go_enter Tryd.func38, Tryd.ntmps38
  go_wp2_with fail
  with_reducible refine HE.out.mono ?_
  rintro e w1 ⟨rfl, hb1⟩
  go_wp2_with fail
  go_ret
  exact ⟨rfl, hb1⟩
def KidTo (F : ByteArray) (wb : World) (e : Ending) (w' : World) : Prop := e = .returned (.string F) ∧ Below wb.heap.size wb w'
theorem below_one (w : World) : Below w.heap.size w w.drew := ⟨rfl, rfl, rfl, Nat.le_refl _, fun _ _ => rfl⟩
set_option maxHeartbeats 3200000 in
theorem expr_plus (a b : EX) (ta tb : List UInt8) (Q : Nat → Prop) (v : Value) (w : World) (hv : LX Q w v (.mk 3 0 [] [a, b])) (hla : ta.length ≤ 1000000000000) (hlb : tb.length ≤ 1000000000000)
    (hA : ∀ v w', LX Q w' v a → Calls Tryd.prog 15 #[v] w' (TextTo (bs ta) w')) (hB : ∀ v w', LX Q w' v b → Calls Tryd.prog 15 #[v] w' (TextTo (bs tb) w')) :
    Calls Tryd.prog 15 #[v] w (TextTo ((((⟨#[40]⟩ ++ bs ta) ++ ⟨#[32, 43, 32]⟩) ++ bs tb) ++ ⟨#[41]⟩) w) := by
  unfold LX at hv
  obtain ⟨aa, ca, rfl, _, hk⟩ := hv
  rcases hk with hk | ⟨g, off, rfl, hg, hs⟩
  · cases hk
  have hbl : Below w.heap.size w (w.alloc (.cells #[.int .i64 3, .int .i64 0, .string ⟨#[]⟩, .slice (some ⟨g, off, none⟩) 2 ca] 31)) := (Below.refl _ _).alloc (Nat.le_refl _) _
  have HE := Lib.hid (Blk.new w 31 #[.int .i64 3, .int .i64 0, .string ⟨#[]⟩, .slice (some ⟨g, off, none⟩) 2 ca])
  have HA := Lib.hid (fun w' (hw : Below (w.alloc (.cells #[.int .i64 3, .int .i64 0, .string ⟨#[]⟩, .slice (some ⟨g, off, none⟩) 2 ca] 31)).heap.size (w.alloc (.cells #[.int .i64 3, .int .i64 0, .string ⟨#[]⟩, .slice (some ⟨g, off, none⟩) 2 ca] 31)) w') => (show Calls Tryd.prog 38 #[.slice (some ⟨g, off, none⟩) 2 ca, .int .i64 0] w' (KidTo (bs ta) (w.alloc (.cells #[.int .i64 3, .int .i64 0, .string ⟨#[]⟩, .slice (some ⟨g, off, none⟩) 2 ca] 31))) from (kid_at (bs ta) 0 [a, b] a g off ca Q w' (LXs.keep (Keeps.below hw (Nat.le_refl _)) _ hg (LXs.keep (Keeps.below hbl (Nat.le_refl _)) _ hg hs)) rfl (by simp) (by simp) hA).mono fun e w2 h => ⟨h.1, hw.trans (h.2.mono hw.size)⟩))
  have HB := Lib.hid (fun w' (hw : Below (w.alloc (.cells #[.int .i64 3, .int .i64 0, .string ⟨#[]⟩, .slice (some ⟨g, off, none⟩) 2 ca] 31)).heap.size (w.alloc (.cells #[.int .i64 3, .int .i64 0, .string ⟨#[]⟩, .slice (some ⟨g, off, none⟩) 2 ca] 31)) w') => (show Calls Tryd.prog 38 #[.slice (some ⟨g, off, none⟩) 2 ca, .int .i64 1] w' (KidTo (bs tb) (w.alloc (.cells #[.int .i64 3, .int .i64 0, .string ⟨#[]⟩, .slice (some ⟨g, off, none⟩) 2 ca] 31))) from (kid_at (bs tb) 1 [a, b] b g off ca Q w' (LXs.keep (Keeps.below hw (Nat.le_refl _)) _ hg (LXs.keep (Keeps.below hbl (Nat.le_refl _)) _ hg hs)) rfl (by simp) (by simp) hB).mono fun e w2 h => ⟨h.1, hw.trans (h.2.mono hw.size)⟩))
  have HBL := Lib.hid hbl
  have sA : (bs ta).size ≤ 1000000000000 := by rw [bs_size]; exact hla
  have sB : (bs tb).size ≤ 1000000000000 := by rw [bs_size]; exact hlb
  clear hs hA hB hbl hla hlb
  generalize bs ta = A at *
  generalize bs tb = B at *
  show Calls Tryd.prog 15 #[.agg #[.int .i64 3, .int .i64 0, .string ⟨#[]⟩, .slice (some ⟨g, off, none⟩) 2 ca]] w _
  go_enter Tryd.func15, Tryd.ntmps15
  go_wp2_with fail
  generalize w.alloc (.cells #[.int .i64 3, .int .i64 0, .string ⟨#[]⟩, .slice (some ⟨g, off, none⟩) 2 ca] 31) = wb at *
  have z1 : ¬ 9223372036854775807 < 1 + A.size := by omega
  have z2 : ¬ 9223372036854775807 < 1 + A.size + 3 := by omega
  have z3 : ¬ 9223372036854775807 < 1 + A.size + 3 + B.size := by omega
  have z4 : ¬ 9223372036854775807 < 1 + A.size + 3 + B.size + 1 := by omega
  have lE := HE.out.lt
  have HK0 : Hid (wb.cell? ⟨w.heap.size, 3, none⟩ = some (.slice (some ⟨g, off, none⟩) 2 ca)) := HE.out.cell 3
  go_region_held3 (fun w' => w'.cell? ⟨w.heap.size, 3, none⟩ = some (.slice (some ⟨g, off, none⟩) 2 ca))
    (first
      | exact HK0.out
      | assumption
      | go_keep)
    (first
      | (go_at_call 38; (with_reducible refine (HA.out _ (by first | assumption | exact below_one _)).mono ?_); rintro e w7 ⟨rfl, hb7⟩; have hS7 : w7.cell? ⟨w.heap.size, 3, none⟩ = some (.slice (some ⟨g, off, none⟩) 2 ca) := (hb7.cell (p := ⟨w.heap.size, 3, none⟩) lE).trans HK0.out)
      | (go_at_call 38; (with_reducible refine (HB.out _ (by first | assumption | exact below_one _)).mono ?_); rintro e w8 ⟨rfl, hb8⟩; have hS8 : w8.cell? ⟨w.heap.size, 3, none⟩ = some (.slice (some ⟨g, off, none⟩) 2 ca) := (hb8.cell (p := ⟨w.heap.size, 3, none⟩) lE).trans HK0.out))
  all_goals
    go_wp2_with fail
    go_ret
    first
      | exact ⟨rfl, HBL.out.trans (hb8.mono HBL.out.size)⟩
      | exact ⟨rfl, HBL.out.trans (hb7.mono HBL.out.size)⟩
set_option maxHeartbeats 3200000 in
theorem expr_minus (a b : EX) (ta tb : List UInt8) (Q : Nat → Prop) (v : Value) (w : World) (hv : LX Q w v (.mk 4 0 [] [a, b])) (hla : ta.length ≤ 1000000000000) (hlb : tb.length ≤ 1000000000000)
    (hA : ∀ v w', LX Q w' v a → Calls Tryd.prog 15 #[v] w' (TextTo (bs ta) w')) (hB : ∀ v w', LX Q w' v b → Calls Tryd.prog 15 #[v] w' (TextTo (bs tb) w')) :
    Calls Tryd.prog 15 #[v] w (TextTo ((((⟨#[40]⟩ ++ bs ta) ++ ⟨#[32, 45, 32]⟩) ++ bs tb) ++ ⟨#[41]⟩) w) := by
  unfold LX at hv
  obtain ⟨aa, ca, rfl, _, hk⟩ := hv
  rcases hk with hk | ⟨g, off, rfl, hg, hs⟩
  · cases hk
  have hbl : Below w.heap.size w (w.alloc (.cells #[.int .i64 4, .int .i64 0, .string ⟨#[]⟩, .slice (some ⟨g, off, none⟩) 2 ca] 31)) := (Below.refl _ _).alloc (Nat.le_refl _) _
  have HE := Lib.hid (Blk.new w 31 #[.int .i64 4, .int .i64 0, .string ⟨#[]⟩, .slice (some ⟨g, off, none⟩) 2 ca])
  have HA := Lib.hid (fun w' (hw : Below (w.alloc (.cells #[.int .i64 4, .int .i64 0, .string ⟨#[]⟩, .slice (some ⟨g, off, none⟩) 2 ca] 31)).heap.size (w.alloc (.cells #[.int .i64 4, .int .i64 0, .string ⟨#[]⟩, .slice (some ⟨g, off, none⟩) 2 ca] 31)) w') => (show Calls Tryd.prog 38 #[.slice (some ⟨g, off, none⟩) 2 ca, .int .i64 0] w' (KidTo (bs ta) (w.alloc (.cells #[.int .i64 4, .int .i64 0, .string ⟨#[]⟩, .slice (some ⟨g, off, none⟩) 2 ca] 31))) from (kid_at (bs ta) 0 [a, b] a g off ca Q w' (LXs.keep (Keeps.below hw (Nat.le_refl _)) _ hg (LXs.keep (Keeps.below hbl (Nat.le_refl _)) _ hg hs)) rfl (by simp) (by simp) hA).mono fun e w2 h => ⟨h.1, hw.trans (h.2.mono hw.size)⟩))
  have HB := Lib.hid (fun w' (hw : Below (w.alloc (.cells #[.int .i64 4, .int .i64 0, .string ⟨#[]⟩, .slice (some ⟨g, off, none⟩) 2 ca] 31)).heap.size (w.alloc (.cells #[.int .i64 4, .int .i64 0, .string ⟨#[]⟩, .slice (some ⟨g, off, none⟩) 2 ca] 31)) w') => (show Calls Tryd.prog 38 #[.slice (some ⟨g, off, none⟩) 2 ca, .int .i64 1] w' (KidTo (bs tb) (w.alloc (.cells #[.int .i64 4, .int .i64 0, .string ⟨#[]⟩, .slice (some ⟨g, off, none⟩) 2 ca] 31))) from (kid_at (bs tb) 1 [a, b] b g off ca Q w' (LXs.keep (Keeps.below hw (Nat.le_refl _)) _ hg (LXs.keep (Keeps.below hbl (Nat.le_refl _)) _ hg hs)) rfl (by simp) (by simp) hB).mono fun e w2 h => ⟨h.1, hw.trans (h.2.mono hw.size)⟩))
  have HBL := Lib.hid hbl
  have sA : (bs ta).size ≤ 1000000000000 := by rw [bs_size]; exact hla
  have sB : (bs tb).size ≤ 1000000000000 := by rw [bs_size]; exact hlb
  clear hs hA hB hbl hla hlb
  generalize bs ta = A at *
  generalize bs tb = B at *
  show Calls Tryd.prog 15 #[.agg #[.int .i64 4, .int .i64 0, .string ⟨#[]⟩, .slice (some ⟨g, off, none⟩) 2 ca]] w _
  go_enter Tryd.func15, Tryd.ntmps15
  go_wp2_with fail
  generalize w.alloc (.cells #[.int .i64 4, .int .i64 0, .string ⟨#[]⟩, .slice (some ⟨g, off, none⟩) 2 ca] 31) = wb at *
  have z1 : ¬ 9223372036854775807 < 1 + A.size := by omega
  have z2 : ¬ 9223372036854775807 < 1 + A.size + 3 := by omega
  have z3 : ¬ 9223372036854775807 < 1 + A.size + 3 + B.size := by omega
  have z4 : ¬ 9223372036854775807 < 1 + A.size + 3 + B.size + 1 := by omega
  have lE := HE.out.lt
  have HK0 : Hid (wb.cell? ⟨w.heap.size, 3, none⟩ = some (.slice (some ⟨g, off, none⟩) 2 ca)) := HE.out.cell 3
  go_region_held3 (fun w' => w'.cell? ⟨w.heap.size, 3, none⟩ = some (.slice (some ⟨g, off, none⟩) 2 ca))
    (first
      | exact HK0.out
      | assumption
      | go_keep)
    (first
      | (go_at_call 38; (with_reducible refine (HA.out _ (by first | assumption | exact below_one _)).mono ?_); rintro e w7 ⟨rfl, hb7⟩; have hS7 : w7.cell? ⟨w.heap.size, 3, none⟩ = some (.slice (some ⟨g, off, none⟩) 2 ca) := (hb7.cell (p := ⟨w.heap.size, 3, none⟩) lE).trans HK0.out)
      | (go_at_call 38; (with_reducible refine (HB.out _ (by first | assumption | exact below_one _)).mono ?_); rintro e w8 ⟨rfl, hb8⟩; have hS8 : w8.cell? ⟨w.heap.size, 3, none⟩ = some (.slice (some ⟨g, off, none⟩) 2 ca) := (hb8.cell (p := ⟨w.heap.size, 3, none⟩) lE).trans HK0.out))
  all_goals
    go_wp2_with fail
    go_ret
    first
      | exact ⟨rfl, HBL.out.trans (hb8.mono HBL.out.size)⟩
      | exact ⟨rfl, HBL.out.trans (hb7.mono HBL.out.size)⟩
set_option maxHeartbeats 3200000 in
theorem expr_eq (a b : EX) (ta tb : List UInt8) (Q : Nat → Prop) (v : Value) (w : World) (hv : LX Q w v (.mk 5 0 [] [a, b])) (hla : ta.length ≤ 1000000000000) (hlb : tb.length ≤ 1000000000000)
    (hA : ∀ v w', LX Q w' v a → Calls Tryd.prog 15 #[v] w' (TextTo (bs ta) w')) (hB : ∀ v w', LX Q w' v b → Calls Tryd.prog 15 #[v] w' (TextTo (bs tb) w')) :
    Calls Tryd.prog 15 #[v] w (TextTo ((((⟨#[40]⟩ ++ bs ta) ++ ⟨#[32, 61, 61, 32]⟩) ++ bs tb) ++ ⟨#[41]⟩) w) := by
  unfold LX at hv
  obtain ⟨aa, ca, rfl, _, hk⟩ := hv
  rcases hk with hk | ⟨g, off, rfl, hg, hs⟩
  · cases hk
  have hbl : Below w.heap.size w (w.alloc (.cells #[.int .i64 5, .int .i64 0, .string ⟨#[]⟩, .slice (some ⟨g, off, none⟩) 2 ca] 31)) := (Below.refl _ _).alloc (Nat.le_refl _) _
  have HE := Lib.hid (Blk.new w 31 #[.int .i64 5, .int .i64 0, .string ⟨#[]⟩, .slice (some ⟨g, off, none⟩) 2 ca])
  have HA := Lib.hid (fun w' (hw : Below (w.alloc (.cells #[.int .i64 5, .int .i64 0, .string ⟨#[]⟩, .slice (some ⟨g, off, none⟩) 2 ca] 31)).heap.size (w.alloc (.cells #[.int .i64 5, .int .i64 0, .string ⟨#[]⟩, .slice (some ⟨g, off, none⟩) 2 ca] 31)) w') => (show Calls Tryd.prog 38 #[.slice (some ⟨g, off, none⟩) 2 ca, .int .i64 0] w' (KidTo (bs ta) (w.alloc (.cells #[.int .i64 5, .int .i64 0, .string ⟨#[]⟩, .slice (some ⟨g, off, none⟩) 2 ca] 31))) from (kid_at (bs ta) 0 [a, b] a g off ca Q w' (LXs.keep (Keeps.below hw (Nat.le_refl _)) _ hg (LXs.keep (Keeps.below hbl (Nat.le_refl _)) _ hg hs)) rfl (by simp) (by simp) hA).mono fun e w2 h => ⟨h.1, hw.trans (h.2.mono hw.size)⟩))
  have HB := Lib.hid (fun w' (hw : Below (w.alloc (.cells #[.int .i64 5, .int .i64 0, .string ⟨#[]⟩, .slice (some ⟨g, off, none⟩) 2 ca] 31)).heap.size (w.alloc (.cells #[.int .i64 5, .int .i64 0, .string ⟨#[]⟩, .slice (some ⟨g, off, none⟩) 2 ca] 31)) w') => (show Calls Tryd.prog 38 #[.slice (some ⟨g, off, none⟩) 2 ca, .int .i64 1] w' (KidTo (bs tb) (w.alloc (.cells #[.int .i64 5, .int .i64 0, .string ⟨#[]⟩, .slice (some ⟨g, off, none⟩) 2 ca] 31))) from (kid_at (bs tb) 1 [a, b] b g off ca Q w' (LXs.keep (Keeps.below hw (Nat.le_refl _)) _ hg (LXs.keep (Keeps.below hbl (Nat.le_refl _)) _ hg hs)) rfl (by simp) (by simp) hB).mono fun e w2 h => ⟨h.1, hw.trans (h.2.mono hw.size)⟩))
  have HBL := Lib.hid hbl
  have sA : (bs ta).size ≤ 1000000000000 := by rw [bs_size]; exact hla
  have sB : (bs tb).size ≤ 1000000000000 := by rw [bs_size]; exact hlb
  clear hs hA hB hbl hla hlb
  generalize bs ta = A at *
  generalize bs tb = B at *
  show Calls Tryd.prog 15 #[.agg #[.int .i64 5, .int .i64 0, .string ⟨#[]⟩, .slice (some ⟨g, off, none⟩) 2 ca]] w _
  go_enter Tryd.func15, Tryd.ntmps15
  go_wp2_with fail
  generalize w.alloc (.cells #[.int .i64 5, .int .i64 0, .string ⟨#[]⟩, .slice (some ⟨g, off, none⟩) 2 ca] 31) = wb at *
  have z1 : ¬ 9223372036854775807 < 1 + A.size := by omega
  have z2 : ¬ 9223372036854775807 < 1 + A.size + 4 := by omega
  have z3 : ¬ 9223372036854775807 < 1 + A.size + 4 + B.size := by omega
  have z4 : ¬ 9223372036854775807 < 1 + A.size + 4 + B.size + 1 := by omega
  have lE := HE.out.lt
  have HK0 : Hid (wb.cell? ⟨w.heap.size, 3, none⟩ = some (.slice (some ⟨g, off, none⟩) 2 ca)) := HE.out.cell 3
  go_region_held3 (fun w' => w'.cell? ⟨w.heap.size, 3, none⟩ = some (.slice (some ⟨g, off, none⟩) 2 ca))
    (first
      | exact HK0.out
      | assumption
      | go_keep)
    (first
      | (go_at_call 38; (with_reducible refine (HA.out _ (by first | assumption | exact below_one _)).mono ?_); rintro e w7 ⟨rfl, hb7⟩; have hS7 : w7.cell? ⟨w.heap.size, 3, none⟩ = some (.slice (some ⟨g, off, none⟩) 2 ca) := (hb7.cell (p := ⟨w.heap.size, 3, none⟩) lE).trans HK0.out)
      | (go_at_call 38; (with_reducible refine (HB.out _ (by first | assumption | exact below_one _)).mono ?_); rintro e w8 ⟨rfl, hb8⟩; have hS8 : w8.cell? ⟨w.heap.size, 3, none⟩ = some (.slice (some ⟨g, off, none⟩) 2 ca) := (hb8.cell (p := ⟨w.heap.size, 3, none⟩) lE).trans HK0.out))
  all_goals
    go_wp2_with fail
    go_ret
    first
      | exact ⟨rfl, HBL.out.trans (hb8.mono HBL.out.size)⟩
      | exact ⟨rfl, HBL.out.trans (hb7.mono HBL.out.size)⟩
set_option maxHeartbeats 3200000 in
theorem expr_less (a b : EX) (ta tb : List UInt8) (Q : Nat → Prop) (v : Value) (w : World) (hv : LX Q w v (.mk 6 0 [] [a, b])) (hla : ta.length ≤ 1000000000000) (hlb : tb.length ≤ 1000000000000)
    (hA : ∀ v w', LX Q w' v a → Calls Tryd.prog 15 #[v] w' (TextTo (bs ta) w')) (hB : ∀ v w', LX Q w' v b → Calls Tryd.prog 15 #[v] w' (TextTo (bs tb) w')) :
    Calls Tryd.prog 15 #[v] w (TextTo ((((⟨#[40]⟩ ++ bs ta) ++ ⟨#[32, 60, 32]⟩) ++ bs tb) ++ ⟨#[41]⟩) w) := by
  unfold LX at hv
  obtain ⟨aa, ca, rfl, _, hk⟩ := hv
  rcases hk with hk | ⟨g, off, rfl, hg, hs⟩
  · cases hk
  have hbl : Below w.heap.size w (w.alloc (.cells #[.int .i64 6, .int .i64 0, .string ⟨#[]⟩, .slice (some ⟨g, off, none⟩) 2 ca] 31)) := (Below.refl _ _).alloc (Nat.le_refl _) _
  have HE := Lib.hid (Blk.new w 31 #[.int .i64 6, .int .i64 0, .string ⟨#[]⟩, .slice (some ⟨g, off, none⟩) 2 ca])
  have HA := Lib.hid (fun w' (hw : Below (w.alloc (.cells #[.int .i64 6, .int .i64 0, .string ⟨#[]⟩, .slice (some ⟨g, off, none⟩) 2 ca] 31)).heap.size (w.alloc (.cells #[.int .i64 6, .int .i64 0, .string ⟨#[]⟩, .slice (some ⟨g, off, none⟩) 2 ca] 31)) w') => (show Calls Tryd.prog 38 #[.slice (some ⟨g, off, none⟩) 2 ca, .int .i64 0] w' (KidTo (bs ta) (w.alloc (.cells #[.int .i64 6, .int .i64 0, .string ⟨#[]⟩, .slice (some ⟨g, off, none⟩) 2 ca] 31))) from (kid_at (bs ta) 0 [a, b] a g off ca Q w' (LXs.keep (Keeps.below hw (Nat.le_refl _)) _ hg (LXs.keep (Keeps.below hbl (Nat.le_refl _)) _ hg hs)) rfl (by simp) (by simp) hA).mono fun e w2 h => ⟨h.1, hw.trans (h.2.mono hw.size)⟩))
  have HB := Lib.hid (fun w' (hw : Below (w.alloc (.cells #[.int .i64 6, .int .i64 0, .string ⟨#[]⟩, .slice (some ⟨g, off, none⟩) 2 ca] 31)).heap.size (w.alloc (.cells #[.int .i64 6, .int .i64 0, .string ⟨#[]⟩, .slice (some ⟨g, off, none⟩) 2 ca] 31)) w') => (show Calls Tryd.prog 38 #[.slice (some ⟨g, off, none⟩) 2 ca, .int .i64 1] w' (KidTo (bs tb) (w.alloc (.cells #[.int .i64 6, .int .i64 0, .string ⟨#[]⟩, .slice (some ⟨g, off, none⟩) 2 ca] 31))) from (kid_at (bs tb) 1 [a, b] b g off ca Q w' (LXs.keep (Keeps.below hw (Nat.le_refl _)) _ hg (LXs.keep (Keeps.below hbl (Nat.le_refl _)) _ hg hs)) rfl (by simp) (by simp) hB).mono fun e w2 h => ⟨h.1, hw.trans (h.2.mono hw.size)⟩))
  have HBL := Lib.hid hbl
  have sA : (bs ta).size ≤ 1000000000000 := by rw [bs_size]; exact hla
  have sB : (bs tb).size ≤ 1000000000000 := by rw [bs_size]; exact hlb
  clear hs hA hB hbl hla hlb
  generalize bs ta = A at *
  generalize bs tb = B at *
  show Calls Tryd.prog 15 #[.agg #[.int .i64 6, .int .i64 0, .string ⟨#[]⟩, .slice (some ⟨g, off, none⟩) 2 ca]] w _
  go_enter Tryd.func15, Tryd.ntmps15
  go_wp2_with fail
  generalize w.alloc (.cells #[.int .i64 6, .int .i64 0, .string ⟨#[]⟩, .slice (some ⟨g, off, none⟩) 2 ca] 31) = wb at *
  have z1 : ¬ 9223372036854775807 < 1 + A.size := by omega
  have z2 : ¬ 9223372036854775807 < 1 + A.size + 3 := by omega
  have z3 : ¬ 9223372036854775807 < 1 + A.size + 3 + B.size := by omega
  have z4 : ¬ 9223372036854775807 < 1 + A.size + 3 + B.size + 1 := by omega
  have lE := HE.out.lt
  have HK0 : Hid (wb.cell? ⟨w.heap.size, 3, none⟩ = some (.slice (some ⟨g, off, none⟩) 2 ca)) := HE.out.cell 3
  go_region_held3 (fun w' => w'.cell? ⟨w.heap.size, 3, none⟩ = some (.slice (some ⟨g, off, none⟩) 2 ca))
    (first
      | exact HK0.out
      | assumption
      | go_keep)
    (first
      | (go_at_call 38; (with_reducible refine (HA.out _ (by first | assumption | exact below_one _)).mono ?_); rintro e w7 ⟨rfl, hb7⟩; have hS7 : w7.cell? ⟨w.heap.size, 3, none⟩ = some (.slice (some ⟨g, off, none⟩) 2 ca) := (hb7.cell (p := ⟨w.heap.size, 3, none⟩) lE).trans HK0.out)
      | (go_at_call 38; (with_reducible refine (HB.out _ (by first | assumption | exact below_one _)).mono ?_); rintro e w8 ⟨rfl, hb8⟩; have hS8 : w8.cell? ⟨w.heap.size, 3, none⟩ = some (.slice (some ⟨g, off, none⟩) 2 ca) := (hb8.cell (p := ⟨w.heap.size, 3, none⟩) lE).trans HK0.out))
  all_goals
    go_wp2_with fail
    go_ret
    first
      | exact ⟨rfl, HBL.out.trans (hb8.mono HBL.out.size)⟩
      | exact ⟨rfl, HBL.out.trans (hb7.mono HBL.out.size)⟩
end Go.Proofs.YtchokfgffnomoaaDoor.Lx
/-
  What Expr of the document's answer tells, as a contract: an expression's text, whole.
-/
namespace Go.Proofs.YtchokfgffnomoaaDoor.Lx
open Go.RowKit
open L (Tok)
open P (EX CO ST TX)
set_option maxRecDepth 100000
set_option linter.unusedVariables false
set_option linter.unusedSimpArgs false
theorem top_le {n : Nat} (h : n ≤ L.top) : (n : Int) ≤ 9223372036854775807 := by
  unfold L.top at h
  omega
set_option maxHeartbeats 1600000 in
theorem expr_num (n : Nat) (hn : n ≤ L.top) (Q : Nat → Prop) (v : Value) (w : World) (hv : LX Q w v (.mk 1 n [] [])) : Calls Tryd.prog 15 #[v] w (TextTo (bs (L.decL n)) w) := by
  unfold LX at hv
  obtain ⟨aa, ca, rfl, _, _⟩ := hv
  have HD := Lib.hid (fun w => digits_any n w (top_le hn))
  clear hn
  generalize bs (L.decL n) = T at *
  show Calls Tryd.prog 15 #[.agg #[.int .i64 1, .int .i64 (n : Nat), .string ⟨#[]⟩, .slice aa 0 ca]] w _
  go_enter Tryd.func15, Tryd.ntmps15
  go_wp2_with fail
  with_reducible refine (HD.out _).mono ?_
  rintro e w1 ⟨rfl, hb1⟩
  go_wp2_with fail
  go_ret
  exact ⟨rfl, ((Below.refl _ _).alloc (Nat.le_refl _) _).trans (hb1.mono (by simp))⟩
set_option maxHeartbeats 1600000 in
theorem expr_reg (s : List UInt8) (Q : Nat → Prop) (v : Value) (w : World) (hv : LX Q w v (.mk 2 0 s [])) : Calls Tryd.prog 15 #[v] w (TextTo (bs s) w) := by
  unfold LX at hv
  obtain ⟨aa, ca, rfl, _, _⟩ := hv
  generalize bs s = T at *
  show Calls Tryd.prog 15 #[.agg #[.int .i64 2, .int .i64 0, .string T, .slice aa 0 ca]] w _
  go_enter Tryd.func15, Tryd.ntmps15
  go_wp2_with fail
  go_ret
  exact ⟨rfl, (Below.refl _ _).alloc (Nat.le_refl _) _⟩
theorem txt_bin (ta m s tb : List UInt8) (hm : m = [32] ++ (s ++ [32])) : (((bs [40] ++ bs ta) ++ bs m) ++ bs tb) ++ bs [41] = bs ([40] ++ (ta ++ ([32] ++ (s ++ ([32] ++ (tb ++ [41])))))) := by
  subst hm
  simp only [bs_app]
  simp
/-- An expression's text is told. -/
theorem expr_text {e : EX} {t : List UInt8} {b : List P.Bo} (h : TX e t b) : ∀ (Q : Nat → Prop) (v : Value) (w : World), LX Q w v e → t.length ≤ 1000000000000 → Calls Tryd.prog 15 #[v] w (TextTo (bs t) w) := by
  induction h with
  | num hn =>
    intro Q v w hv hl
    exact expr_num _ hn Q v w hv
  | reg hk =>
    intro Q v w hv hl
    exact expr_reg _ Q v w hv
  | @bin op s a b ta tb ba bb hop ha hb iha ihb =>
    intro Q v w hv hl
    simp only [List.length_append, List.length_cons, List.length_nil] at hl
    have hA := fun v w' hx => iha Q v w' hx (by omega)
    have hB := fun v w' hx => ihb Q v w' hx (by omega)
    cases hop with
    | plus =>
      have := expr_plus a b ta tb Q v w hv (by omega) (by omega) hA hB
      rw [show ((((⟨#[40]⟩ ++ bs ta) ++ ⟨#[32, 43, 32]⟩) ++ bs tb) ++ ⟨#[41]⟩ : ByteArray) = _ from txt_bin ta [32, 43, 32] [43] tb rfl] at this
      exact this
    | minus =>
      have := expr_minus a b ta tb Q v w hv (by omega) (by omega) hA hB
      rw [show ((((⟨#[40]⟩ ++ bs ta) ++ ⟨#[32, 45, 32]⟩) ++ bs tb) ++ ⟨#[41]⟩ : ByteArray) = _ from txt_bin ta [32, 45, 32] [45] tb rfl] at this
      exact this
    | eq =>
      have := expr_eq a b ta tb Q v w hv (by omega) (by omega) hA hB
      rw [show ((((⟨#[40]⟩ ++ bs ta) ++ ⟨#[32, 61, 61, 32]⟩) ++ bs tb) ++ ⟨#[41]⟩ : ByteArray) = _ from txt_bin ta [32, 61, 61, 32] [61, 61] tb rfl] at this
      exact this
    | less =>
      have := expr_less a b ta tb Q v w hv (by omega) (by omega) hA hB
      rw [show ((((⟨#[40]⟩ ++ bs ta) ++ ⟨#[32, 60, 32]⟩) ++ bs tb) ++ ⟨#[41]⟩ : ByteArray) = _ from txt_bin ta [32, 60, 32] [60] tb rfl] at this
      exact this
end Go.Proofs.YtchokfgffnomoaaDoor.Lx
/-
  What Cond of the document's answer tells, as a contract: a condition's text.
-/
namespace Go.Proofs.YtchokfgffnomoaaDoor.Lx
open Go.RowKit
open L (Tok)
open P (EX CO ST TX TC)
set_option maxRecDepth 100000
set_option linter.unusedVariables false
set_option linter.unusedSimpArgs false
set_option maxHeartbeats 1600000 in
theorem side_at (F : ByteArray) (i : Nat) (es : List CO) (e : CO) (g off cap : Nat) (Q : Nat → Prop) (w : World) (hl : LCs Q w g off es) (he : es[i]? = some e) (hm : es.length ≤ 1000) (hi : i < es.length)
    (hEx : ∀ v w', LC Q w' v e → Calls Tryd.prog 17 #[v] w' (TextTo F w')) :
    Calls Tryd.prog 40 #[.slice (some ⟨g, off, none⟩) es.length cap, .int .i64 (i : Nat)] w (TextTo F w) := by
  obtain ⟨x, a0, a1, a2, a3, a4, hx, h0, h1, h2, h3, h4, hlx⟩ := LCs.at es hl i hi
  obtain rfl : x = e := by rw [he] at hx; exact (Option.some.inj hx).symm
  have HE := Lib.hid (hEx _ w hlx)
  clear hl he hx hlx hEx
  have m1 : (0 : Int) ≤ (i : Int) := by omega
  have m2 : (i : Int) < (es.length : Int) := by omega
  have d1 : decide ((es.length : Int) ≤ (i : Int)) = false := by simp; omega
  have d2 : decide (es.length ≤ i) = false := by simp; omega
  go_enter Tryd.func40, Tryd.ntmps40
  go_wp2_with fail
  with_reducible refine HE.out.mono ?_
  rintro e w1 ⟨rfl, hb1⟩
  go_wp2_with fail
  go_ret
  exact ⟨rfl, hb1⟩
set_option maxHeartbeats 3200000 in
theorem cond_and (a b : CO) (ta tb : List UInt8) (Q : Nat → Prop) (v : Value) (w : World) (hv : LC Q w v (.mk 4 0 [] 0 [a, b])) (hla : ta.length ≤ 1000000000000) (hlb : tb.length ≤ 1000000000000)
    (hA : ∀ v w', LC Q w' v a → Calls Tryd.prog 17 #[v] w' (TextTo (bs ta) w')) (hB : ∀ v w', LC Q w' v b → Calls Tryd.prog 17 #[v] w' (TextTo (bs tb) w')) :
    Calls Tryd.prog 17 #[v] w (TextTo ((((⟨#[40]⟩ ++ bs ta) ++ ⟨#[32, 97, 110, 100, 32]⟩) ++ bs tb) ++ ⟨#[41]⟩) w) := by
  unfold LC at hv
  obtain ⟨aa, ca, rfl, _, hk⟩ := hv
  rcases hk with hk | ⟨g, off, rfl, hg, hs⟩
  · cases hk
  have hbl : Below w.heap.size w (w.alloc (.cells #[.int .i64 4, .int .i64 0, .string ⟨#[]⟩, .int .i64 0, .slice (some ⟨g, off, none⟩) 2 ca] 26)) := (Below.refl _ _).alloc (Nat.le_refl _) _
  have HE := Lib.hid (Blk.new w 26 #[.int .i64 4, .int .i64 0, .string ⟨#[]⟩, .int .i64 0, .slice (some ⟨g, off, none⟩) 2 ca])
  have HA := Lib.hid (fun w' (hw : Below (w.alloc (.cells #[.int .i64 4, .int .i64 0, .string ⟨#[]⟩, .int .i64 0, .slice (some ⟨g, off, none⟩) 2 ca] 26)).heap.size (w.alloc (.cells #[.int .i64 4, .int .i64 0, .string ⟨#[]⟩, .int .i64 0, .slice (some ⟨g, off, none⟩) 2 ca] 26)) w') => (show Calls Tryd.prog 40 #[.slice (some ⟨g, off, none⟩) 2 ca, .int .i64 0] w' (KidTo (bs ta) (w.alloc (.cells #[.int .i64 4, .int .i64 0, .string ⟨#[]⟩, .int .i64 0, .slice (some ⟨g, off, none⟩) 2 ca] 26))) from (side_at (bs ta) 0 [a, b] a g off ca Q w' (LCs.keep (Keeps.below hw (Nat.le_refl _)) _ hg (LCs.keep (Keeps.below hbl (Nat.le_refl _)) _ hg hs)) rfl (by simp) (by simp) hA).mono fun e w2 h => ⟨h.1, hw.trans (h.2.mono hw.size)⟩))
  have HB := Lib.hid (fun w' (hw : Below (w.alloc (.cells #[.int .i64 4, .int .i64 0, .string ⟨#[]⟩, .int .i64 0, .slice (some ⟨g, off, none⟩) 2 ca] 26)).heap.size (w.alloc (.cells #[.int .i64 4, .int .i64 0, .string ⟨#[]⟩, .int .i64 0, .slice (some ⟨g, off, none⟩) 2 ca] 26)) w') => (show Calls Tryd.prog 40 #[.slice (some ⟨g, off, none⟩) 2 ca, .int .i64 1] w' (KidTo (bs tb) (w.alloc (.cells #[.int .i64 4, .int .i64 0, .string ⟨#[]⟩, .int .i64 0, .slice (some ⟨g, off, none⟩) 2 ca] 26))) from (side_at (bs tb) 1 [a, b] b g off ca Q w' (LCs.keep (Keeps.below hw (Nat.le_refl _)) _ hg (LCs.keep (Keeps.below hbl (Nat.le_refl _)) _ hg hs)) rfl (by simp) (by simp) hB).mono fun e w2 h => ⟨h.1, hw.trans (h.2.mono hw.size)⟩))
  have HBL := Lib.hid hbl
  have sA : (bs ta).size ≤ 1000000000000 := by rw [bs_size]; exact hla
  have sB : (bs tb).size ≤ 1000000000000 := by rw [bs_size]; exact hlb
  clear hs hA hB hbl hla hlb
  generalize bs ta = A at *
  generalize bs tb = B at *
  show Calls Tryd.prog 17 #[.agg #[.int .i64 4, .int .i64 0, .string ⟨#[]⟩, .int .i64 0, .slice (some ⟨g, off, none⟩) 2 ca]] w _
  go_enter Tryd.func17, Tryd.ntmps17
  go_wp2_with fail
  generalize w.alloc (.cells #[.int .i64 4, .int .i64 0, .string ⟨#[]⟩, .int .i64 0, .slice (some ⟨g, off, none⟩) 2 ca] 26) = wb at *
  have z1 : ¬ 9223372036854775807 < 1 + A.size := by omega
  have z2 : ¬ 9223372036854775807 < 1 + A.size + 5 := by omega
  have z3 : ¬ 9223372036854775807 < 1 + A.size + 5 + B.size := by omega
  have z4 : ¬ 9223372036854775807 < 1 + A.size + 5 + B.size + 1 := by omega
  have lE := HE.out.lt
  have HK0 : Hid (wb.cell? ⟨w.heap.size, 4, none⟩ = some (.slice (some ⟨g, off, none⟩) 2 ca)) := HE.out.cell 4
  go_region_held3 (fun w' => w'.cell? ⟨w.heap.size, 4, none⟩ = some (.slice (some ⟨g, off, none⟩) 2 ca))
    (first
      | exact HK0.out
      | assumption
      | go_keep)
    (first
      | (go_at_call 40; (with_reducible refine (HA.out _ (by first | assumption | exact below_one _)).mono ?_); rintro e w7 ⟨rfl, hb7⟩; have hS7 : w7.cell? ⟨w.heap.size, 4, none⟩ = some (.slice (some ⟨g, off, none⟩) 2 ca) := (hb7.cell (p := ⟨w.heap.size, 4, none⟩) lE).trans HK0.out)
      | (go_at_call 40; (with_reducible refine (HB.out _ (by first | assumption | exact below_one _)).mono ?_); rintro e w8 ⟨rfl, hb8⟩; have hS8 : w8.cell? ⟨w.heap.size, 4, none⟩ = some (.slice (some ⟨g, off, none⟩) 2 ca) := (hb8.cell (p := ⟨w.heap.size, 4, none⟩) lE).trans HK0.out))
  all_goals
    go_wp2_with fail
    go_ret
    first
      | exact ⟨rfl, HBL.out.trans (hb8.mono HBL.out.size)⟩
      | exact ⟨rfl, HBL.out.trans (hb7.mono HBL.out.size)⟩
set_option maxHeartbeats 3200000 in
theorem cond_or (a b : CO) (ta tb : List UInt8) (Q : Nat → Prop) (v : Value) (w : World) (hv : LC Q w v (.mk 5 0 [] 0 [a, b])) (hla : ta.length ≤ 1000000000000) (hlb : tb.length ≤ 1000000000000)
    (hA : ∀ v w', LC Q w' v a → Calls Tryd.prog 17 #[v] w' (TextTo (bs ta) w')) (hB : ∀ v w', LC Q w' v b → Calls Tryd.prog 17 #[v] w' (TextTo (bs tb) w')) :
    Calls Tryd.prog 17 #[v] w (TextTo ((((⟨#[40]⟩ ++ bs ta) ++ ⟨#[32, 111, 114, 32]⟩) ++ bs tb) ++ ⟨#[41]⟩) w) := by
  unfold LC at hv
  obtain ⟨aa, ca, rfl, _, hk⟩ := hv
  rcases hk with hk | ⟨g, off, rfl, hg, hs⟩
  · cases hk
  have hbl : Below w.heap.size w (w.alloc (.cells #[.int .i64 5, .int .i64 0, .string ⟨#[]⟩, .int .i64 0, .slice (some ⟨g, off, none⟩) 2 ca] 26)) := (Below.refl _ _).alloc (Nat.le_refl _) _
  have HE := Lib.hid (Blk.new w 26 #[.int .i64 5, .int .i64 0, .string ⟨#[]⟩, .int .i64 0, .slice (some ⟨g, off, none⟩) 2 ca])
  have HA := Lib.hid (fun w' (hw : Below (w.alloc (.cells #[.int .i64 5, .int .i64 0, .string ⟨#[]⟩, .int .i64 0, .slice (some ⟨g, off, none⟩) 2 ca] 26)).heap.size (w.alloc (.cells #[.int .i64 5, .int .i64 0, .string ⟨#[]⟩, .int .i64 0, .slice (some ⟨g, off, none⟩) 2 ca] 26)) w') => (show Calls Tryd.prog 40 #[.slice (some ⟨g, off, none⟩) 2 ca, .int .i64 0] w' (KidTo (bs ta) (w.alloc (.cells #[.int .i64 5, .int .i64 0, .string ⟨#[]⟩, .int .i64 0, .slice (some ⟨g, off, none⟩) 2 ca] 26))) from (side_at (bs ta) 0 [a, b] a g off ca Q w' (LCs.keep (Keeps.below hw (Nat.le_refl _)) _ hg (LCs.keep (Keeps.below hbl (Nat.le_refl _)) _ hg hs)) rfl (by simp) (by simp) hA).mono fun e w2 h => ⟨h.1, hw.trans (h.2.mono hw.size)⟩))
  have HB := Lib.hid (fun w' (hw : Below (w.alloc (.cells #[.int .i64 5, .int .i64 0, .string ⟨#[]⟩, .int .i64 0, .slice (some ⟨g, off, none⟩) 2 ca] 26)).heap.size (w.alloc (.cells #[.int .i64 5, .int .i64 0, .string ⟨#[]⟩, .int .i64 0, .slice (some ⟨g, off, none⟩) 2 ca] 26)) w') => (show Calls Tryd.prog 40 #[.slice (some ⟨g, off, none⟩) 2 ca, .int .i64 1] w' (KidTo (bs tb) (w.alloc (.cells #[.int .i64 5, .int .i64 0, .string ⟨#[]⟩, .int .i64 0, .slice (some ⟨g, off, none⟩) 2 ca] 26))) from (side_at (bs tb) 1 [a, b] b g off ca Q w' (LCs.keep (Keeps.below hw (Nat.le_refl _)) _ hg (LCs.keep (Keeps.below hbl (Nat.le_refl _)) _ hg hs)) rfl (by simp) (by simp) hB).mono fun e w2 h => ⟨h.1, hw.trans (h.2.mono hw.size)⟩))
  have HBL := Lib.hid hbl
  have sA : (bs ta).size ≤ 1000000000000 := by rw [bs_size]; exact hla
  have sB : (bs tb).size ≤ 1000000000000 := by rw [bs_size]; exact hlb
  clear hs hA hB hbl hla hlb
  generalize bs ta = A at *
  generalize bs tb = B at *
  show Calls Tryd.prog 17 #[.agg #[.int .i64 5, .int .i64 0, .string ⟨#[]⟩, .int .i64 0, .slice (some ⟨g, off, none⟩) 2 ca]] w _
  go_enter Tryd.func17, Tryd.ntmps17
  go_wp2_with fail
  generalize w.alloc (.cells #[.int .i64 5, .int .i64 0, .string ⟨#[]⟩, .int .i64 0, .slice (some ⟨g, off, none⟩) 2 ca] 26) = wb at *
  have z1 : ¬ 9223372036854775807 < 1 + A.size := by omega
  have z2 : ¬ 9223372036854775807 < 1 + A.size + 4 := by omega
  have z3 : ¬ 9223372036854775807 < 1 + A.size + 4 + B.size := by omega
  have z4 : ¬ 9223372036854775807 < 1 + A.size + 4 + B.size + 1 := by omega
  have lE := HE.out.lt
  have HK0 : Hid (wb.cell? ⟨w.heap.size, 4, none⟩ = some (.slice (some ⟨g, off, none⟩) 2 ca)) := HE.out.cell 4
  go_region_held3 (fun w' => w'.cell? ⟨w.heap.size, 4, none⟩ = some (.slice (some ⟨g, off, none⟩) 2 ca))
    (first
      | exact HK0.out
      | assumption
      | go_keep)
    (first
      | (go_at_call 40; (with_reducible refine (HA.out _ (by first | assumption | exact below_one _)).mono ?_); rintro e w7 ⟨rfl, hb7⟩; have hS7 : w7.cell? ⟨w.heap.size, 4, none⟩ = some (.slice (some ⟨g, off, none⟩) 2 ca) := (hb7.cell (p := ⟨w.heap.size, 4, none⟩) lE).trans HK0.out)
      | (go_at_call 40; (with_reducible refine (HB.out _ (by first | assumption | exact below_one _)).mono ?_); rintro e w8 ⟨rfl, hb8⟩; have hS8 : w8.cell? ⟨w.heap.size, 4, none⟩ = some (.slice (some ⟨g, off, none⟩) 2 ca) := (hb8.cell (p := ⟨w.heap.size, 4, none⟩) lE).trans HK0.out))
  all_goals
    go_wp2_with fail
    go_ret
    first
      | exact ⟨rfl, HBL.out.trans (hb8.mono HBL.out.size)⟩
      | exact ⟨rfl, HBL.out.trans (hb7.mono HBL.out.size)⟩
set_option maxHeartbeats 3200000 in
theorem cond_not (a : CO) (ta : List UInt8) (Q : Nat → Prop) (v : Value) (w : World) (hv : LC Q w v (.mk 3 0 [] 0 [a])) (hla : ta.length ≤ 1000000000000)
    (hA : ∀ v w', LC Q w' v a → Calls Tryd.prog 17 #[v] w' (TextTo (bs ta) w')) :
    Calls Tryd.prog 17 #[v] w (TextTo (⟨#[110, 111, 116, 32]⟩ ++ bs ta) w) := by
  unfold LC at hv
  obtain ⟨aa, ca, rfl, _, hk⟩ := hv
  rcases hk with hk | ⟨g, off, rfl, hg, hs⟩
  · cases hk
  have hbl : Below w.heap.size w (w.alloc (.cells #[.int .i64 3, .int .i64 0, .string ⟨#[]⟩, .int .i64 0, .slice (some ⟨g, off, none⟩) 1 ca] 26)) := (Below.refl _ _).alloc (Nat.le_refl _) _
  have HA := Lib.hid (show Calls Tryd.prog 40 #[.slice (some ⟨g, off, none⟩) 1 ca, .int .i64 0] (w.alloc (.cells #[.int .i64 3, .int .i64 0, .string ⟨#[]⟩, .int .i64 0, .slice (some ⟨g, off, none⟩) 1 ca] 26)) (TextTo (bs ta) _) from side_at (bs ta) 0 [a] a g off ca Q _ (LCs.keep (Keeps.below hbl (Nat.le_refl _)) _ hg hs) rfl (by simp) (by simp) hA)
  have HBL := Lib.hid hbl
  have sA : (bs ta).size ≤ 1000000000000 := by rw [bs_size]; exact hla
  clear hs hA hbl hla
  generalize bs ta = A at *
  have z1 : ¬ 9223372036854775807 < 4 + A.size := by omega
  show Calls Tryd.prog 17 #[.agg #[.int .i64 3, .int .i64 0, .string ⟨#[]⟩, .int .i64 0, .slice (some ⟨g, off, none⟩) 1 ca]] w _
  go_enter Tryd.func17, Tryd.ntmps17
  go_wp2_with fail
  with_reducible refine HA.out.mono ?_
  rintro e w1 ⟨rfl, hb1⟩
  go_wp2_with fail
  go_ret
  exact ⟨rfl, HBL.out.trans (hb1.mono HBL.out.size)⟩
end Go.Proofs.YtchokfgffnomoaaDoor.Lx
/-
  What Cond of the document's answer tells, as a contract: a condition's text, whole.
-/
namespace Go.Proofs.YtchokfgffnomoaaDoor.Lx
open Go.RowKit
open L (Tok)
open P (EX CO ST TX TC)
set_option maxRecDepth 100000
set_option linter.unusedVariables false
set_option linter.unusedSimpArgs false
theorem digits_kid (n : Nat) (hn : n ≤ L.top) (wb w' : World) (hw : Below wb.heap.size wb w') : Calls Tryd.prog 35 #[.int .i64 (n : Nat)] w' (KidTo (bs (L.decL n)) wb) :=
  (digits_any n w' (top_le hn)).mono fun e w2 h => ⟨h.1, hw.trans (h.2.mono hw.size)⟩
theorem dec_size {n : Nat} (hn : n ≤ L.top) : (bs (L.decL n)).size ≤ 19 := by
  rw [bs_size]
  exact dec_max n (top_le hn)
set_option maxHeartbeats 3200000 in
theorem cond_mem (s : List UInt8) (n : Nat) (hn : n ≤ L.top) (Q : Nat → Prop) (v : Value) (w : World) (hv : LC Q w v (.mk 1 0 s n [])) (hls : s.length ≤ 1000000000000) :
    Calls Tryd.prog 17 #[v] w (TextTo ((bs s ++ ⟨#[32, 61, 61, 32]⟩) ++ bs (L.decL n)) w) := by
  unfold LC at hv
  obtain ⟨aa, ca, rfl, _, _⟩ := hv
  have sS : (bs s).size ≤ 1000000000000 := by rw [bs_size]; exact hls
  have sD := dec_size hn
  have HD := Lib.hid (fun wb w' hw => digits_kid n hn wb w' hw)
  clear hls hn
  generalize bs s = S at *
  generalize bs (L.decL n) = D at *
  have HBL := Lib.hid (show Below w.heap.size w (w.alloc (.cells #[.int .i64 1, .int .i64 0, .string S, .int .i64 (n : Nat), .slice aa 0 ca] 26)) from (Below.refl _ _).alloc (Nat.le_refl _) _)
  have HE := Lib.hid (Blk.new w 26 #[.int .i64 1, .int .i64 0, .string S, .int .i64 (n : Nat), .slice aa 0 ca])
  show Calls Tryd.prog 17 #[.agg #[.int .i64 1, .int .i64 0, .string S, .int .i64 (n : Nat), .slice aa 0 ca]] w _
  go_enter Tryd.func17, Tryd.ntmps17
  go_wp2_with fail
  generalize w.alloc (.cells #[.int .i64 1, .int .i64 0, .string S, .int .i64 (n : Nat), .slice aa 0 ca] 26) = wb at *
  have z1 : ¬ 9223372036854775807 < S.size + 4 := by omega
  have z2 : ¬ 9223372036854775807 < S.size + 4 + D.size := by omega
  have lE := HE.out.lt
  have HK0 : Hid (wb.cell? ⟨w.heap.size, 2, none⟩ = some (.string S) ∧ wb.cell? ⟨w.heap.size, 3, none⟩ = some (.int .i64 (n : Nat))) := ⟨HE.out.cell 2, HE.out.cell 3⟩
  have HDD := Lib.hid (HD.out wb)
  go_region_held3 (fun w' => w'.cell? ⟨w.heap.size, 2, none⟩ = some (.string S) ∧ w'.cell? ⟨w.heap.size, 3, none⟩ = some (.int .i64 (n : Nat)))
    (first
      | exact HK0.out
      | assumption
      | go_keep)
    (first
      | (go_at_call 35; (with_reducible refine (HDD.out _ (by first | assumption | exact below_one _)).mono ?_); rintro e w7 ⟨rfl, hb7⟩; have hS7 : w7.cell? ⟨w.heap.size, 2, none⟩ = some (.string S) ∧ w7.cell? ⟨w.heap.size, 3, none⟩ = some (.int .i64 (n : Nat)) := ⟨(hb7.cell (p := ⟨w.heap.size, 2, none⟩) lE).trans HK0.out.1, (hb7.cell (p := ⟨w.heap.size, 3, none⟩) lE).trans HK0.out.2⟩))
  all_goals
    go_wp2_with fail
    go_ret
    exact ⟨rfl, HBL.out.trans (hb7.mono HBL.out.size)⟩
set_option maxHeartbeats 3200000 in
theorem cond_reg (s : List UInt8) (k n : Nat) (hk : k ≤ L.top) (hn : n ≤ L.top) (Q : Nat → Prop) (v : Value) (w : World) (hv : LC Q w v (.mk 2 k s n [])) (hls : s.length ≤ 1000000000000) :
    Calls Tryd.prog 17 #[v] w (TextTo ((((bs (L.decL k) ++ ⟨#[58]⟩) ++ bs s) ++ ⟨#[32, 61, 61, 32]⟩) ++ bs (L.decL n)) w) := by
  unfold LC at hv
  obtain ⟨aa, ca, rfl, _, _⟩ := hv
  have sS : (bs s).size ≤ 1000000000000 := by rw [bs_size]; exact hls
  have sD := dec_size hn
  have sK := dec_size hk
  have HD := Lib.hid (fun wb w' hw => digits_kid n hn wb w' hw)
  have HT := Lib.hid (fun wb w' hw => digits_kid k hk wb w' hw)
  clear hls hn hk
  generalize bs s = S at *
  generalize bs (L.decL n) = D at *
  generalize bs (L.decL k) = T at *
  have HBL := Lib.hid (show Below w.heap.size w (w.alloc (.cells #[.int .i64 2, .int .i64 (k : Nat), .string S, .int .i64 (n : Nat), .slice aa 0 ca] 26)) from (Below.refl _ _).alloc (Nat.le_refl _) _)
  have HE := Lib.hid (Blk.new w 26 #[.int .i64 2, .int .i64 (k : Nat), .string S, .int .i64 (n : Nat), .slice aa 0 ca])
  show Calls Tryd.prog 17 #[.agg #[.int .i64 2, .int .i64 (k : Nat), .string S, .int .i64 (n : Nat), .slice aa 0 ca]] w _
  go_enter Tryd.func17, Tryd.ntmps17
  go_wp2_with fail
  generalize w.alloc (.cells #[.int .i64 2, .int .i64 (k : Nat), .string S, .int .i64 (n : Nat), .slice aa 0 ca] 26) = wb at *
  have z1 : ¬ 9223372036854775807 < T.size + 1 := by omega
  have z2 : ¬ 9223372036854775807 < T.size + 1 + S.size := by omega
  have z3 : ¬ 9223372036854775807 < T.size + 1 + S.size + 4 := by omega
  have z4 : ¬ 9223372036854775807 < T.size + 1 + S.size + 4 + D.size := by omega
  have lE := HE.out.lt
  have HK0 : Hid (wb.cell? ⟨w.heap.size, 1, none⟩ = some (.int .i64 (k : Nat)) ∧ wb.cell? ⟨w.heap.size, 2, none⟩ = some (.string S) ∧ wb.cell? ⟨w.heap.size, 3, none⟩ = some (.int .i64 (n : Nat))) := ⟨HE.out.cell 1, HE.out.cell 2, HE.out.cell 3⟩
  have HK7 := Lib.hid (fun w7 (h7 : Below wb.heap.size wb w7) => (show w7.cell? ⟨w.heap.size, 1, none⟩ = some (.int .i64 (k : Nat)) ∧ w7.cell? ⟨w.heap.size, 2, none⟩ = some (.string S) ∧ w7.cell? ⟨w.heap.size, 3, none⟩ = some (.int .i64 (n : Nat)) from ⟨(h7.cell (p := ⟨w.heap.size, 1, none⟩) lE).trans HK0.out.1, (h7.cell (p := ⟨w.heap.size, 2, none⟩) lE).trans HK0.out.2.1, (h7.cell (p := ⟨w.heap.size, 3, none⟩) lE).trans HK0.out.2.2⟩))
  have HDD := Lib.hid (HD.out wb)
  have HTT := Lib.hid (HT.out wb)
  go_region_held3 (fun w' => w'.cell? ⟨w.heap.size, 1, none⟩ = some (.int .i64 (k : Nat)) ∧ w'.cell? ⟨w.heap.size, 2, none⟩ = some (.string S) ∧ w'.cell? ⟨w.heap.size, 3, none⟩ = some (.int .i64 (n : Nat)))
    (first
      | exact HK0.out
      | assumption
      | go_keep)
    (first
      | (go_at_call 35; (with_reducible refine (HTT.out _ (by first | assumption | exact below_one _)).mono ?_); rintro e w7 ⟨rfl, hb7⟩; have hS7 := HK7.out w7 hb7)
      | (go_at_call 35; (with_reducible refine (HDD.out _ (by first | assumption | exact below_one _)).mono ?_); rintro e w8 ⟨rfl, hb8⟩; have hS8 := HK7.out w8 hb8))
  all_goals
    go_wp2_with fail
    go_ret
    first
      | exact ⟨rfl, HBL.out.trans (hb8.mono HBL.out.size)⟩
      | exact ⟨rfl, HBL.out.trans (hb7.mono HBL.out.size)⟩
/-- A condition's text is told. -/
theorem cond_text {c : CO} {t : List UInt8} {b : List P.Bo} (h : TC c t b) : ∀ (Q : Nat → Prop) (v : Value) (w : World), LC Q w v c → t.length ≤ 1000000000000 → Calls Tryd.prog 17 #[v] w (TextTo (bs t) w) := by
  induction h with
  | @mem s n hk hn =>
    intro Q v w hv hl
    simp only [List.length_append, List.length_cons, List.length_nil] at hl
    have := cond_mem s n hn Q v w hv (by omega)
    rw [show ((bs s ++ ⟨#[32, 61, 61, 32]⟩) ++ bs (L.decL n) : ByteArray) = bs (s ++ ([32] ++ ([61, 61] ++ ([32] ++ L.decL n)))) by
      show (bs s ++ bs [32, 61, 61, 32]) ++ bs (L.decL n) = _
      simp only [bs_app]
      simp] at this
    exact this
  | @reg s k n hk hn hq =>
    intro Q v w hv hl
    simp only [List.length_append, List.length_cons, List.length_nil] at hl
    have := cond_reg s k n hq hn Q v w hv (by omega)
    rw [show ((((bs (L.decL k) ++ ⟨#[58]⟩) ++ bs s) ++ ⟨#[32, 61, 61, 32]⟩) ++ bs (L.decL n) : ByteArray) = bs (L.decL k ++ ([58] ++ (s ++ ([32] ++ ([61, 61] ++ ([32] ++ L.decL n)))))) by
      show (((bs (L.decL k) ++ bs [58]) ++ bs s) ++ bs [32, 61, 61, 32]) ++ bs (L.decL n) = _
      simp only [bs_app]
      simp] at this
    exact this
  | @not a ta ba ha iha =>
    intro Q v w hv hl
    simp only [List.length_append, List.length_cons, List.length_nil] at hl
    have := cond_not a ta Q v w hv (by omega) (fun v w' hx => iha Q v w' hx (by omega))
    rw [show (⟨#[110, 111, 116, 32]⟩ ++ bs ta : ByteArray) = bs ([110, 111, 116] ++ ([32] ++ ta)) by
      show bs [110, 111, 116, 32] ++ bs ta = _
      simp only [bs_app]
      simp] at this
    exact this
  | @and a b ta tb ba bb ha hb iha ihb =>
    intro Q v w hv hl
    simp only [List.length_append, List.length_cons, List.length_nil] at hl
    have := cond_and a b ta tb Q v w hv (by omega) (by omega) (fun v w' hx => iha Q v w' hx (by omega)) (fun v w' hx => ihb Q v w' hx (by omega))
    rw [show ((((⟨#[40]⟩ ++ bs ta) ++ ⟨#[32, 97, 110, 100, 32]⟩) ++ bs tb) ++ ⟨#[41]⟩ : ByteArray) = _ from txt_bin ta [32, 97, 110, 100, 32] [97, 110, 100] tb rfl] at this
    exact this
  | @or a b ta tb ba bb ha hb iha ihb =>
    intro Q v w hv hl
    simp only [List.length_append, List.length_cons, List.length_nil] at hl
    have := cond_or a b ta tb Q v w hv (by omega) (by omega) (fun v w' hx => iha Q v w' hx (by omega)) (fun v w' hx => ihb Q v w' hx (by omega))
    rw [show ((((⟨#[40]⟩ ++ bs ta) ++ ⟨#[32, 111, 114, 32]⟩) ++ bs tb) ++ ⟨#[41]⟩ : ByteArray) = _ from txt_bin ta [32, 111, 114, 32] [111, 114] tb rfl] at this
    exact this
end Go.Proofs.YtchokfgffnomoaaDoor.Lx
/-
  What in and Mode of the document's answer tell, as contracts.
-/
namespace Go.Proofs.YtchokfgffnomoaaDoor.Lx
open Go.RowKit
open L (Tok)
open P (EX CO ST TX TC)
set_option maxRecDepth 100000
set_option linter.unusedVariables false
set_option linter.unusedSimpArgs false
theorem ind_succ (d : Nat) : bs (P.ind d) ++ ⟨#[32, 32]⟩ = bs (P.ind (d + 1)) := by
  show bs (P.ind d) ++ bs [32, 32] = _
  rw [bs_app]
  congr 1
  unfold P.ind
  rw [show ([32, 32] : List UInt8) = List.replicate 2 32 from rfl, List.replicate_append_replicate]
  congr 1
theorem ind_size (d : Nat) : (bs (P.ind d)).size = 2 * d := by
  rw [bs_size]
  simp [P.ind]
set_option maxHeartbeats 1600000 in
theorem in_text (d : Nat) (hd : d ≤ 1000000000000) (w : World) : Calls Tryd.prog 54 #[.int .i64 (d : Nat)] w (fun e w' => e = .returned (.string (bs (P.ind d))) ∧ w = w') := by
  go_enter Tryd.func54, Tryd.ntmps54
  go_wp2_with fail
  go_loop [3, 4] (fun s i => ∃ k : Nat, k ≤ d ∧ i = .int .i64 k ∧ s = .string (bs (P.ind k))) (fun _ i => d - (intOf i).toNat)
  case atStart => exact ⟨0, Nat.zero_le _, rfl, rfl⟩
  case round =>
    obtain ⟨k, hk, rfl, rfl⟩ := hrel
    have HS := Lib.hid (ind_succ k)
    have hz := ind_size k
    have hz' : (bs (P.ind k)).size ≤ 2000000000000 := by omega
    clear hz
    by_cases hlt : k < d
    · generalize bs (P.ind k) = S at *
      have z1 : ¬ 9223372036854775807 < S.size + 2 := by omega
      go_wp2
      go_round
      case rel => exact ⟨k + 1, by omega, by go_num, by rw [← HS.out]⟩
      case measure => simp [intOf]; omega
    · obtain rfl : k = d := by omega
      generalize hS : bs (P.ind k) = S at *
      have HSS := Lib.hid hS
      clear hS
      go_wp2
      go_ret
      exact ⟨by rw [HSS.out]; rfl, rfl⟩
set_option maxHeartbeats 1600000 in
theorem modeW_text (m : Nat) (hm : m < 5) (w : World) : Calls Tryd.prog 19 #[.int .i64 (m : Nat)] w (fun e w' => e = .returned (.string (bs (P.modeT m))) ∧ w = w') := by
  match m, hm with
  | 0, _ =>
    show Calls Tryd.prog 19 #[.int .i64 0] w (fun e w' => e = .returned (.string ⟨#[114, 108, 120]⟩) ∧ w = w')
    go_enter Tryd.func19, Tryd.ntmps19
    go_wp2
    go_ret
    exact ⟨rfl, rfl⟩
  | 1, _ =>
    show Calls Tryd.prog 19 #[.int .i64 1] w (fun e w' => e = .returned (.string ⟨#[97, 99, 113]⟩) ∧ w = w')
    go_enter Tryd.func19, Tryd.ntmps19
    go_wp2
    go_ret
    exact ⟨rfl, rfl⟩
  | 2, _ =>
    show Calls Tryd.prog 19 #[.int .i64 2] w (fun e w' => e = .returned (.string ⟨#[114, 101, 108]⟩) ∧ w = w')
    go_enter Tryd.func19, Tryd.ntmps19
    go_wp2
    go_ret
    exact ⟨rfl, rfl⟩
  | 3, _ =>
    show Calls Tryd.prog 19 #[.int .i64 3] w (fun e w' => e = .returned (.string ⟨#[97, 99, 113, 114, 101, 108]⟩) ∧ w = w')
    go_enter Tryd.func19, Tryd.ntmps19
    go_wp2
    go_ret
    exact ⟨rfl, rfl⟩
  | 4, _ =>
    show Calls Tryd.prog 19 #[.int .i64 4] w (fun e w' => e = .returned (.string ⟨#[115, 99]⟩) ∧ w = w')
    go_enter Tryd.func19, Tryd.ntmps19
    go_wp2
    go_ret
    exact ⟨rfl, rfl⟩
end Go.Proofs.YtchokfgffnomoaaDoor.Lx
