import Derived.Test.YtchokfgffnomoaaDoorK1
import Derived.Test.YtchokfgffnomoaaDoorXA
import Derived.Test.YtchokfgffnomoaaDoorRows
import Derived.WalkKit
import Derived.WalkSpells
import Derived.WalkLawsBesides
import Derived.IntWalk
import Derived.Lib.Hide
import Derived.Deep.Light
import Derived.Test.YtchokfgffnomoaaDoorLMem
import Derived.Test.YtchokfgffnomoaaDoorTA
import Derived.Deep.QuietTactic
import Derived.BigQuiet
import Derived.Test.YtchokfgffnomoaaDoorSA
import Derived.Deep.AppendLies
import Derived.Laws.AppendOwnNone
import Derived.Test.YtchokfgffnomoaaDoorPSame
import Derived.Deep.RegionHeld3
import Derived.ProofKit
import Derived.OpenShut
import Derived.ChangeOld
import Derived.SizedLaws
import Derived.Test.YtchokfgffnomoaaDoorXMath
import Derived.Lib.Join

/-
  What Expr of the document's answer tells of any expression, as a contract.
-/
namespace Go.Proofs.YtchokfgffnomoaaDoor.Lx
open Go.RowKit
open P (EX szX)
set_option maxRecDepth 100000
set_option linter.unusedVariables false
set_option linter.unusedSimpArgs false
theorem isXs_low {Q : Nat → Prop} {w w' : World} {v : Value} {es : List EX} (h : IsXs Q w v es) (hb : Below w.heap.size w w') : IsXs Q w' v es := by
  obtain ⟨a, c, rfl, hm, h | ⟨g, off, ha, hg, hs⟩⟩ := h
  · exact ⟨a, c, rfl, hm, .inl h⟩
  · exact ⟨a, c, rfl, hm, .inr ⟨g, off, ha, hg, LXs.keep (Keeps.below hb (Nat.le_refl _)) es hg hs⟩⟩
theorem xE_two {o n : Int} {s m : List UInt8} {ks : List EX} (h : P.midE o = some m) (h1 : o ≠ 1) (h2 : o ≠ 2) : P.xE (.mk o n s ks) = [40] ++ (kidT ks 0 ++ ([32] ++ (m ++ ([32] ++ (kidT ks 1 ++ [41]))))) := by
  rw [P.xE, if_neg h1, if_neg h2, h, xEs_map]
  rfl
set_option maxHeartbeats 3200000 in
theorem rx_plus (n : Int) (s : List UInt8) (ks : List EX) (a : Option Addr) (cap : Nat) (Q : Nat → Prop) (w : World) (hv : IsXs Q w (.slice a ks.length cap) ks) (hl : (kidT ks 0).length + (kidT ks 1).length ≤ 1000000000000)
    (hk : ∀ e ∈ ks, ∀ v w', LX Q w' v e → Calls Tryd.prog 15 #[v] w' (TextTo (bs (P.xE e)) w')) :
    Calls Tryd.prog 15 #[.agg #[.int .i64 3, .int .i64 n, .string (bs s), .slice a ks.length cap]] w (TextTo ((((⟨#[40]⟩ ++ bs (kidT ks 0)) ++ ⟨#[32, 43, 32]⟩) ++ bs (kidT ks 1)) ++ ⟨#[41]⟩) w) := by
  have hm : ks.length ≤ maxLen := by obtain ⟨_, _, he, hm, _⟩ := hv; exact hm
  unfold maxLen at hm
  have hbl : Below w.heap.size w (w.alloc (.cells #[.int .i64 3, .int .i64 n, .string (bs s), .slice a ks.length cap] 31)) := (Below.refl _ _).alloc (Nat.le_refl _) _
  have HE := Lib.hid (Blk.new w 31 #[.int .i64 3, .int .i64 n, .string (bs s), .slice a ks.length cap])
  have HA := Lib.hid (fun w' (hw : Below (w.alloc (.cells #[.int .i64 3, .int .i64 n, .string (bs s), .slice a ks.length cap] 31)).heap.size (w.alloc (.cells #[.int .i64 3, .int .i64 n, .string (bs s), .slice a ks.length cap] 31)) w') => (kid_text ks 0 0 rfl Q _ w' (isXs_low (isXs_low hv hbl) hw) hk).mono fun e w'' (hx : TextTo (bs (kidT ks 0)) w' e w'') => (show KidTo (bs (kidT ks 0)) (w.alloc (.cells #[.int .i64 3, .int .i64 n, .string (bs s), .slice a ks.length cap] 31)) e w'' from ⟨hx.1, hw.trans (hx.2.mono hw.size)⟩))
  have HB := Lib.hid (fun w' (hw : Below (w.alloc (.cells #[.int .i64 3, .int .i64 n, .string (bs s), .slice a ks.length cap] 31)).heap.size (w.alloc (.cells #[.int .i64 3, .int .i64 n, .string (bs s), .slice a ks.length cap] 31)) w') => (kid_text ks 1 1 rfl Q _ w' (isXs_low (isXs_low hv hbl) hw) hk).mono fun e w'' (hx : TextTo (bs (kidT ks 1)) w' e w'') => (show KidTo (bs (kidT ks 1)) (w.alloc (.cells #[.int .i64 3, .int .i64 n, .string (bs s), .slice a ks.length cap] 31)) e w'' from ⟨hx.1, hw.trans (hx.2.mono hw.size)⟩))
  have HBL := Lib.hid hbl
  have sA : (bs (kidT ks 0)).size ≤ 1000000000000 := by rw [bs_size]; omega
  have sB : (bs (kidT ks 1)).size ≤ 1000000000000 := by rw [bs_size]; omega
  clear hv hk hbl hl
  generalize bs (kidT ks 0) = A at *
  generalize bs (kidT ks 1) = B at *
  generalize bs s = S at *
  go_enter Tryd.func15, Tryd.ntmps15
  go_wp2_with fail
  generalize (w.alloc (.cells #[.int .i64 3, .int .i64 n, .string S, .slice a ks.length cap] 31)) = wb at *
  have z1 : ¬ 9223372036854775807 < 1 + A.size := by omega
  have z2 : ¬ 9223372036854775807 < 1 + A.size + 3 := by omega
  have z3 : ¬ 9223372036854775807 < 1 + A.size + 3 + B.size := by omega
  have z4 : ¬ 9223372036854775807 < 1 + A.size + 3 + B.size + 1 := by omega
  have lE := HE.out.lt
  have HK0 : Hid (wb.cell? ⟨w.heap.size, 3, none⟩ = some (.slice a ks.length cap)) := HE.out.cell 3
  have hb0 : Below wb.heap.size wb wb := Below.refl _ _
  have hbD : Below wb.heap.size wb wb.drew := (Below.refl _ _).drew
  go_region_held3 (fun w' => w'.cell? ⟨w.heap.size, 3, none⟩ = some (.slice a ks.length cap))
    (first
      | exact HK0.out
      | assumption
      | go_keep)
    (first
      | (go_at_call 38; (with_reducible refine (HA.out _ (by assumption)).mono ?_); rintro e w7 ⟨rfl, hb7⟩; have hS7 : w7.cell? ⟨w.heap.size, 3, none⟩ = some (.slice a ks.length cap) := (hb7.cell (p := ⟨w.heap.size, 3, none⟩) lE).trans HK0.out)
      | (go_at_call 38; (with_reducible refine (HB.out _ (by assumption)).mono ?_); rintro e w8 ⟨rfl, hb8⟩; have hS8 : w8.cell? ⟨w.heap.size, 3, none⟩ = some (.slice a ks.length cap) := (hb8.cell (p := ⟨w.heap.size, 3, none⟩) lE).trans HK0.out))
  all_goals
    go_wp2_with fail
    go_ret
    first
      | exact ⟨rfl, HBL.out.trans (hb8.mono HBL.out.size)⟩
      | exact ⟨rfl, HBL.out.trans (hb7.mono HBL.out.size)⟩
set_option maxHeartbeats 3200000 in
theorem rx_minus (n : Int) (s : List UInt8) (ks : List EX) (a : Option Addr) (cap : Nat) (Q : Nat → Prop) (w : World) (hv : IsXs Q w (.slice a ks.length cap) ks) (hl : (kidT ks 0).length + (kidT ks 1).length ≤ 1000000000000)
    (hk : ∀ e ∈ ks, ∀ v w', LX Q w' v e → Calls Tryd.prog 15 #[v] w' (TextTo (bs (P.xE e)) w')) :
    Calls Tryd.prog 15 #[.agg #[.int .i64 4, .int .i64 n, .string (bs s), .slice a ks.length cap]] w (TextTo ((((⟨#[40]⟩ ++ bs (kidT ks 0)) ++ ⟨#[32, 45, 32]⟩) ++ bs (kidT ks 1)) ++ ⟨#[41]⟩) w) := by
  have hm : ks.length ≤ maxLen := by obtain ⟨_, _, he, hm, _⟩ := hv; exact hm
  unfold maxLen at hm
  have hbl : Below w.heap.size w (w.alloc (.cells #[.int .i64 4, .int .i64 n, .string (bs s), .slice a ks.length cap] 31)) := (Below.refl _ _).alloc (Nat.le_refl _) _
  have HE := Lib.hid (Blk.new w 31 #[.int .i64 4, .int .i64 n, .string (bs s), .slice a ks.length cap])
  have HA := Lib.hid (fun w' (hw : Below (w.alloc (.cells #[.int .i64 4, .int .i64 n, .string (bs s), .slice a ks.length cap] 31)).heap.size (w.alloc (.cells #[.int .i64 4, .int .i64 n, .string (bs s), .slice a ks.length cap] 31)) w') => (kid_text ks 0 0 rfl Q _ w' (isXs_low (isXs_low hv hbl) hw) hk).mono fun e w'' (hx : TextTo (bs (kidT ks 0)) w' e w'') => (show KidTo (bs (kidT ks 0)) (w.alloc (.cells #[.int .i64 4, .int .i64 n, .string (bs s), .slice a ks.length cap] 31)) e w'' from ⟨hx.1, hw.trans (hx.2.mono hw.size)⟩))
  have HB := Lib.hid (fun w' (hw : Below (w.alloc (.cells #[.int .i64 4, .int .i64 n, .string (bs s), .slice a ks.length cap] 31)).heap.size (w.alloc (.cells #[.int .i64 4, .int .i64 n, .string (bs s), .slice a ks.length cap] 31)) w') => (kid_text ks 1 1 rfl Q _ w' (isXs_low (isXs_low hv hbl) hw) hk).mono fun e w'' (hx : TextTo (bs (kidT ks 1)) w' e w'') => (show KidTo (bs (kidT ks 1)) (w.alloc (.cells #[.int .i64 4, .int .i64 n, .string (bs s), .slice a ks.length cap] 31)) e w'' from ⟨hx.1, hw.trans (hx.2.mono hw.size)⟩))
  have HBL := Lib.hid hbl
  have sA : (bs (kidT ks 0)).size ≤ 1000000000000 := by rw [bs_size]; omega
  have sB : (bs (kidT ks 1)).size ≤ 1000000000000 := by rw [bs_size]; omega
  clear hv hk hbl hl
  generalize bs (kidT ks 0) = A at *
  generalize bs (kidT ks 1) = B at *
  generalize bs s = S at *
  go_enter Tryd.func15, Tryd.ntmps15
  go_wp2_with fail
  generalize (w.alloc (.cells #[.int .i64 4, .int .i64 n, .string S, .slice a ks.length cap] 31)) = wb at *
  have z1 : ¬ 9223372036854775807 < 1 + A.size := by omega
  have z2 : ¬ 9223372036854775807 < 1 + A.size + 3 := by omega
  have z3 : ¬ 9223372036854775807 < 1 + A.size + 3 + B.size := by omega
  have z4 : ¬ 9223372036854775807 < 1 + A.size + 3 + B.size + 1 := by omega
  have lE := HE.out.lt
  have HK0 : Hid (wb.cell? ⟨w.heap.size, 3, none⟩ = some (.slice a ks.length cap)) := HE.out.cell 3
  have hb0 : Below wb.heap.size wb wb := Below.refl _ _
  have hbD : Below wb.heap.size wb wb.drew := (Below.refl _ _).drew
  go_region_held3 (fun w' => w'.cell? ⟨w.heap.size, 3, none⟩ = some (.slice a ks.length cap))
    (first
      | exact HK0.out
      | assumption
      | go_keep)
    (first
      | (go_at_call 38; (with_reducible refine (HA.out _ (by assumption)).mono ?_); rintro e w7 ⟨rfl, hb7⟩; have hS7 : w7.cell? ⟨w.heap.size, 3, none⟩ = some (.slice a ks.length cap) := (hb7.cell (p := ⟨w.heap.size, 3, none⟩) lE).trans HK0.out)
      | (go_at_call 38; (with_reducible refine (HB.out _ (by assumption)).mono ?_); rintro e w8 ⟨rfl, hb8⟩; have hS8 : w8.cell? ⟨w.heap.size, 3, none⟩ = some (.slice a ks.length cap) := (hb8.cell (p := ⟨w.heap.size, 3, none⟩) lE).trans HK0.out))
  all_goals
    go_wp2_with fail
    go_ret
    first
      | exact ⟨rfl, HBL.out.trans (hb8.mono HBL.out.size)⟩
      | exact ⟨rfl, HBL.out.trans (hb7.mono HBL.out.size)⟩
set_option maxHeartbeats 3200000 in
theorem rx_eq (n : Int) (s : List UInt8) (ks : List EX) (a : Option Addr) (cap : Nat) (Q : Nat → Prop) (w : World) (hv : IsXs Q w (.slice a ks.length cap) ks) (hl : (kidT ks 0).length + (kidT ks 1).length ≤ 1000000000000)
    (hk : ∀ e ∈ ks, ∀ v w', LX Q w' v e → Calls Tryd.prog 15 #[v] w' (TextTo (bs (P.xE e)) w')) :
    Calls Tryd.prog 15 #[.agg #[.int .i64 5, .int .i64 n, .string (bs s), .slice a ks.length cap]] w (TextTo ((((⟨#[40]⟩ ++ bs (kidT ks 0)) ++ ⟨#[32, 61, 61, 32]⟩) ++ bs (kidT ks 1)) ++ ⟨#[41]⟩) w) := by
  have hm : ks.length ≤ maxLen := by obtain ⟨_, _, he, hm, _⟩ := hv; exact hm
  unfold maxLen at hm
  have hbl : Below w.heap.size w (w.alloc (.cells #[.int .i64 5, .int .i64 n, .string (bs s), .slice a ks.length cap] 31)) := (Below.refl _ _).alloc (Nat.le_refl _) _
  have HE := Lib.hid (Blk.new w 31 #[.int .i64 5, .int .i64 n, .string (bs s), .slice a ks.length cap])
  have HA := Lib.hid (fun w' (hw : Below (w.alloc (.cells #[.int .i64 5, .int .i64 n, .string (bs s), .slice a ks.length cap] 31)).heap.size (w.alloc (.cells #[.int .i64 5, .int .i64 n, .string (bs s), .slice a ks.length cap] 31)) w') => (kid_text ks 0 0 rfl Q _ w' (isXs_low (isXs_low hv hbl) hw) hk).mono fun e w'' (hx : TextTo (bs (kidT ks 0)) w' e w'') => (show KidTo (bs (kidT ks 0)) (w.alloc (.cells #[.int .i64 5, .int .i64 n, .string (bs s), .slice a ks.length cap] 31)) e w'' from ⟨hx.1, hw.trans (hx.2.mono hw.size)⟩))
  have HB := Lib.hid (fun w' (hw : Below (w.alloc (.cells #[.int .i64 5, .int .i64 n, .string (bs s), .slice a ks.length cap] 31)).heap.size (w.alloc (.cells #[.int .i64 5, .int .i64 n, .string (bs s), .slice a ks.length cap] 31)) w') => (kid_text ks 1 1 rfl Q _ w' (isXs_low (isXs_low hv hbl) hw) hk).mono fun e w'' (hx : TextTo (bs (kidT ks 1)) w' e w'') => (show KidTo (bs (kidT ks 1)) (w.alloc (.cells #[.int .i64 5, .int .i64 n, .string (bs s), .slice a ks.length cap] 31)) e w'' from ⟨hx.1, hw.trans (hx.2.mono hw.size)⟩))
  have HBL := Lib.hid hbl
  have sA : (bs (kidT ks 0)).size ≤ 1000000000000 := by rw [bs_size]; omega
  have sB : (bs (kidT ks 1)).size ≤ 1000000000000 := by rw [bs_size]; omega
  clear hv hk hbl hl
  generalize bs (kidT ks 0) = A at *
  generalize bs (kidT ks 1) = B at *
  generalize bs s = S at *
  go_enter Tryd.func15, Tryd.ntmps15
  go_wp2_with fail
  generalize (w.alloc (.cells #[.int .i64 5, .int .i64 n, .string S, .slice a ks.length cap] 31)) = wb at *
  have z1 : ¬ 9223372036854775807 < 1 + A.size := by omega
  have z2 : ¬ 9223372036854775807 < 1 + A.size + 4 := by omega
  have z3 : ¬ 9223372036854775807 < 1 + A.size + 4 + B.size := by omega
  have z4 : ¬ 9223372036854775807 < 1 + A.size + 4 + B.size + 1 := by omega
  have lE := HE.out.lt
  have HK0 : Hid (wb.cell? ⟨w.heap.size, 3, none⟩ = some (.slice a ks.length cap)) := HE.out.cell 3
  have hb0 : Below wb.heap.size wb wb := Below.refl _ _
  have hbD : Below wb.heap.size wb wb.drew := (Below.refl _ _).drew
  go_region_held3 (fun w' => w'.cell? ⟨w.heap.size, 3, none⟩ = some (.slice a ks.length cap))
    (first
      | exact HK0.out
      | assumption
      | go_keep)
    (first
      | (go_at_call 38; (with_reducible refine (HA.out _ (by assumption)).mono ?_); rintro e w7 ⟨rfl, hb7⟩; have hS7 : w7.cell? ⟨w.heap.size, 3, none⟩ = some (.slice a ks.length cap) := (hb7.cell (p := ⟨w.heap.size, 3, none⟩) lE).trans HK0.out)
      | (go_at_call 38; (with_reducible refine (HB.out _ (by assumption)).mono ?_); rintro e w8 ⟨rfl, hb8⟩; have hS8 : w8.cell? ⟨w.heap.size, 3, none⟩ = some (.slice a ks.length cap) := (hb8.cell (p := ⟨w.heap.size, 3, none⟩) lE).trans HK0.out))
  all_goals
    go_wp2_with fail
    go_ret
    first
      | exact ⟨rfl, HBL.out.trans (hb8.mono HBL.out.size)⟩
      | exact ⟨rfl, HBL.out.trans (hb7.mono HBL.out.size)⟩
set_option maxHeartbeats 3200000 in
theorem rx_less (n : Int) (s : List UInt8) (ks : List EX) (a : Option Addr) (cap : Nat) (Q : Nat → Prop) (w : World) (hv : IsXs Q w (.slice a ks.length cap) ks) (hl : (kidT ks 0).length + (kidT ks 1).length ≤ 1000000000000)
    (hk : ∀ e ∈ ks, ∀ v w', LX Q w' v e → Calls Tryd.prog 15 #[v] w' (TextTo (bs (P.xE e)) w')) :
    Calls Tryd.prog 15 #[.agg #[.int .i64 6, .int .i64 n, .string (bs s), .slice a ks.length cap]] w (TextTo ((((⟨#[40]⟩ ++ bs (kidT ks 0)) ++ ⟨#[32, 60, 32]⟩) ++ bs (kidT ks 1)) ++ ⟨#[41]⟩) w) := by
  have hm : ks.length ≤ maxLen := by obtain ⟨_, _, he, hm, _⟩ := hv; exact hm
  unfold maxLen at hm
  have hbl : Below w.heap.size w (w.alloc (.cells #[.int .i64 6, .int .i64 n, .string (bs s), .slice a ks.length cap] 31)) := (Below.refl _ _).alloc (Nat.le_refl _) _
  have HE := Lib.hid (Blk.new w 31 #[.int .i64 6, .int .i64 n, .string (bs s), .slice a ks.length cap])
  have HA := Lib.hid (fun w' (hw : Below (w.alloc (.cells #[.int .i64 6, .int .i64 n, .string (bs s), .slice a ks.length cap] 31)).heap.size (w.alloc (.cells #[.int .i64 6, .int .i64 n, .string (bs s), .slice a ks.length cap] 31)) w') => (kid_text ks 0 0 rfl Q _ w' (isXs_low (isXs_low hv hbl) hw) hk).mono fun e w'' (hx : TextTo (bs (kidT ks 0)) w' e w'') => (show KidTo (bs (kidT ks 0)) (w.alloc (.cells #[.int .i64 6, .int .i64 n, .string (bs s), .slice a ks.length cap] 31)) e w'' from ⟨hx.1, hw.trans (hx.2.mono hw.size)⟩))
  have HB := Lib.hid (fun w' (hw : Below (w.alloc (.cells #[.int .i64 6, .int .i64 n, .string (bs s), .slice a ks.length cap] 31)).heap.size (w.alloc (.cells #[.int .i64 6, .int .i64 n, .string (bs s), .slice a ks.length cap] 31)) w') => (kid_text ks 1 1 rfl Q _ w' (isXs_low (isXs_low hv hbl) hw) hk).mono fun e w'' (hx : TextTo (bs (kidT ks 1)) w' e w'') => (show KidTo (bs (kidT ks 1)) (w.alloc (.cells #[.int .i64 6, .int .i64 n, .string (bs s), .slice a ks.length cap] 31)) e w'' from ⟨hx.1, hw.trans (hx.2.mono hw.size)⟩))
  have HBL := Lib.hid hbl
  have sA : (bs (kidT ks 0)).size ≤ 1000000000000 := by rw [bs_size]; omega
  have sB : (bs (kidT ks 1)).size ≤ 1000000000000 := by rw [bs_size]; omega
  clear hv hk hbl hl
  generalize bs (kidT ks 0) = A at *
  generalize bs (kidT ks 1) = B at *
  generalize bs s = S at *
  go_enter Tryd.func15, Tryd.ntmps15
  go_wp2_with fail
  generalize (w.alloc (.cells #[.int .i64 6, .int .i64 n, .string S, .slice a ks.length cap] 31)) = wb at *
  have z1 : ¬ 9223372036854775807 < 1 + A.size := by omega
  have z2 : ¬ 9223372036854775807 < 1 + A.size + 3 := by omega
  have z3 : ¬ 9223372036854775807 < 1 + A.size + 3 + B.size := by omega
  have z4 : ¬ 9223372036854775807 < 1 + A.size + 3 + B.size + 1 := by omega
  have lE := HE.out.lt
  have HK0 : Hid (wb.cell? ⟨w.heap.size, 3, none⟩ = some (.slice a ks.length cap)) := HE.out.cell 3
  have hb0 : Below wb.heap.size wb wb := Below.refl _ _
  have hbD : Below wb.heap.size wb wb.drew := (Below.refl _ _).drew
  go_region_held3 (fun w' => w'.cell? ⟨w.heap.size, 3, none⟩ = some (.slice a ks.length cap))
    (first
      | exact HK0.out
      | assumption
      | go_keep)
    (first
      | (go_at_call 38; (with_reducible refine (HA.out _ (by assumption)).mono ?_); rintro e w7 ⟨rfl, hb7⟩; have hS7 : w7.cell? ⟨w.heap.size, 3, none⟩ = some (.slice a ks.length cap) := (hb7.cell (p := ⟨w.heap.size, 3, none⟩) lE).trans HK0.out)
      | (go_at_call 38; (with_reducible refine (HB.out _ (by assumption)).mono ?_); rintro e w8 ⟨rfl, hb8⟩; have hS8 : w8.cell? ⟨w.heap.size, 3, none⟩ = some (.slice a ks.length cap) := (hb8.cell (p := ⟨w.heap.size, 3, none⟩) lE).trans HK0.out))
  all_goals
    go_wp2_with fail
    go_ret
    first
      | exact ⟨rfl, HBL.out.trans (hb8.mono HBL.out.size)⟩
      | exact ⟨rfl, HBL.out.trans (hb7.mono HBL.out.size)⟩
set_option maxHeartbeats 3200000 in
/-- Of any expression whose Kids' texts are told. -/
theorem rx_step (e : EX) (hw : wfX e) (hl : (P.xE e).length ≤ 1000000000000) (Q : Nat → Prop) (hk : ∀ k, (∃ o n s ks, e = .mk o n s ks ∧ k ∈ ks) → ∀ v w', LX Q w' v k → Calls Tryd.prog 15 #[v] w' (TextTo (bs (P.xE k)) w')) (v : Value) (w : World) (hv : LX Q w v e) :
    Calls Tryd.prog 15 #[v] w (TextTo (bs (P.xE e)) w) := by
  obtain ⟨op, n, s, ks⟩ := e
  have hk' : ∀ e ∈ ks, ∀ v w', LX Q w' v e → Calls Tryd.prog 15 #[v] w' (TextTo (bs (P.xE e)) w') := fun k h => hk k ⟨_, _, _, _, rfl, h⟩
  unfold LX at hv
  obtain ⟨a, cap, rfl, hm, hc⟩ := hv
  have hx : IsXs Q w (.slice a ks.length cap) ks := ⟨a, cap, rfl, hm, hc⟩
  unfold wfX at hw
  by_cases h1 : op = 1
  · subst h1
    have e0 : P.xE (.mk 1 n s ks) = P.xN n := by rw [P.xE, if_pos rfl]
    rw [e0]
    have HD := Lib.hid (fun w => rdig_any n hw.2.1 w)
    clear hk hk' hx hw hl e0 hm hc
    generalize bs (P.xN n) = T at *
    generalize bs s = S at *
    go_enter Tryd.func15, Tryd.ntmps15
    go_wp2_with fail
    with_reducible refine (HD.out _).mono ?_
    rintro e w1 ⟨rfl, hb1⟩
    go_wp2_with fail
    go_ret
    exact ⟨rfl, ((Below.refl _ _).alloc (Nat.le_refl _) _).trans (hb1.mono (by simp))⟩
  by_cases h2 : op = 2
  · subst h2
    have e0 : P.xE (.mk 2 n s ks) = s := by rw [P.xE, if_neg (by decide), if_pos rfl]
    rw [e0]
    clear hk hk' hx hw hl e0 hm hc
    generalize bs s = S at *
    go_enter Tryd.func15, Tryd.ntmps15
    go_wp2_with fail
    go_ret
    exact ⟨rfl, (Below.refl _ _).alloc (Nat.le_refl _) _⟩

  by_cases h3 : op = 3
  · subst h3
    have e0 : P.xE (.mk 3 n s ks) = _ := xE_two (m := [43]) rfl (by decide) (by decide)
    rw [e0] at hl ⊢
    simp only [List.length_append, List.length_cons, List.length_nil] at hl
    have := rx_plus n s ks a cap Q w hx (by omega) hk'
    rw [show ((((⟨#[40]⟩ ++ bs (kidT ks 0)) ++ ⟨#[32, 43, 32]⟩) ++ bs (kidT ks 1)) ++ ⟨#[41]⟩ : ByteArray) = _ from txt_bin (kidT ks 0) [32, 43, 32] [43] (kidT ks 1) rfl] at this
    exact this
  by_cases h4 : op = 4
  · subst h4
    have e0 : P.xE (.mk 4 n s ks) = _ := xE_two (m := [45]) rfl (by decide) (by decide)
    rw [e0] at hl ⊢
    simp only [List.length_append, List.length_cons, List.length_nil] at hl
    have := rx_minus n s ks a cap Q w hx (by omega) hk'
    rw [show ((((⟨#[40]⟩ ++ bs (kidT ks 0)) ++ ⟨#[32, 45, 32]⟩) ++ bs (kidT ks 1)) ++ ⟨#[41]⟩ : ByteArray) = _ from txt_bin (kidT ks 0) [32, 45, 32] [45] (kidT ks 1) rfl] at this
    exact this
  by_cases h5 : op = 5
  · subst h5
    have e0 : P.xE (.mk 5 n s ks) = _ := xE_two (m := [61, 61]) rfl (by decide) (by decide)
    rw [e0] at hl ⊢
    simp only [List.length_append, List.length_cons, List.length_nil] at hl
    have := rx_eq n s ks a cap Q w hx (by omega) hk'
    rw [show ((((⟨#[40]⟩ ++ bs (kidT ks 0)) ++ ⟨#[32, 61, 61, 32]⟩) ++ bs (kidT ks 1)) ++ ⟨#[41]⟩ : ByteArray) = _ from txt_bin (kidT ks 0) [32, 61, 61, 32] [61, 61] (kidT ks 1) rfl] at this
    exact this
  by_cases h6 : op = 6
  · subst h6
    have e0 : P.xE (.mk 6 n s ks) = _ := xE_two (m := [60]) rfl (by decide) (by decide)
    rw [e0] at hl ⊢
    simp only [List.length_append, List.length_cons, List.length_nil] at hl
    have := rx_less n s ks a cap Q w hx (by omega) hk'
    rw [show ((((⟨#[40]⟩ ++ bs (kidT ks 0)) ++ ⟨#[32, 60, 32]⟩) ++ bs (kidT ks 1)) ++ ⟨#[41]⟩ : ByteArray) = _ from txt_bin (kidT ks 0) [32, 60, 32] [60] (kidT ks 1) rfl] at this
    exact this
  have e0 : P.xE (.mk op n s ks) = [] := by
    rw [P.xE, if_neg h1, if_neg h2]
    unfold P.midE
    rw [if_neg h3, if_neg h4, if_neg h5, if_neg h6]
  rw [e0]
  have b1 : (op == 1) = false := by simpa using h1
  have b2 : (op == 2) = false := by simpa using h2
  have b3 : (op == 3) = false := by simpa using h3
  have b4 : (op == 4) = false := by simpa using h4
  have b5 : (op == 5) = false := by simpa using h5
  have b6 : (op == 6) = false := by simpa using h6
  show Calls Tryd.prog 15 #[.agg #[.int .i64 op, .int .i64 n, .string (bs s), .slice a ks.length cap]] w (TextTo ⟨#[]⟩ w)
  clear hk hk' hx hw hl e0 hm hc
  generalize bs s = S at *
  go_enter Tryd.func15, Tryd.ntmps15
  go_wp2_with fail
  go_ret
  exact ⟨rfl, (Below.refl _ _).alloc (Nat.le_refl _) _⟩
end Go.Proofs.YtchokfgffnomoaaDoor.Lx
/-
  What the functions of package wrap tell, as contracts: each returns what the plain function of the same kind says, and leaves the world as it was.
-/
namespace Go.Proofs.YtchokfgffnomoaaDoor.Wr
open Go.RowKit
set_option linter.unusedVariables false
theorem ret_int {k : IntKind} {a b : Int} (h : a = b) : Ending.returned (.int k a) = .returned (.int k b) := by rw [h]
theorem ret_bool {a b : Bool} (h : a = b) : Ending.returned (.bool a) = .returned (.bool b) := by rw [h]
/-- A number of 64 bits. -/
def I64 (v : Int) : Prop := -9223372036854775808 ≤ v ∧ v ≤ 9223372036854775807
theorem I64.mk {v : Int} (h : -9223372036854775808 ≤ v) (h' : v ≤ 9223372036854775807) : I64 v := ⟨h, h'⟩
theorem w64 {v : Int} (h : I64 v) : wrap64 v = v := IntWalk.wrap64_in _ (by unfold I64 at h; omega)
/-- A number that numbers stop at, or one below it. -/
def Held (v : Int) : Prop := 0 ≤ v ∧ v ≤ 4611686018427387904
theorem Held.i64 {v : Int} (h : Held v) : I64 v := by unfold Held at h; unfold I64; omega
theorem held_at0 (v : Int) : Held (V.at0 v) := V.at0_bd v
theorem held_stop {v : Int} (h : 0 ≤ v) : Held (V.stop v) := V.stop_bd h
theorem in_i64 (v n : Int) : I64 (V.inI v n) := by
  have := V.inI_in v n
  unfold I64
  omega

theorem sum_i64 (a b : Int) (ha : 0 ≤ a ∧ a ≤ 2147483647) (hb : 0 ≤ b ∧ b ≤ 2147483647) : I64 (a + b) := by
  have hm : I64 (a + b) := by
    unfold I64
    omega
  exact hm
theorem less_i64 (a b : Int) (ha : 0 ≤ a ∧ a ≤ 2147483647) (hb : 0 ≤ b ∧ b ≤ 2147483647) : I64 (a - b) := by
  have hm : I64 (a - b) := by
    unfold I64
    omega
  exact hm
theorem product_i64 (a b : Int) (ha : 0 ≤ a ∧ a ≤ 2147483647) (hb : 0 ≤ b ∧ b ≤ 2147483647) : I64 (a * b) := by
  have hm : I64 (a * b) := by
    have h1 : 0 ≤ a * b := Int.mul_nonneg ha.1 hb.1
    have h2 : a * b ≤ 2147483647 * b := Int.mul_le_mul_of_nonneg_right ha.2 hb.1
    have := hb.2
    unfold I64
    omega
  exact hm
end Go.Proofs.YtchokfgffnomoaaDoor.Wr
/-
  Slices of bytes that came in.
-/
namespace Go.Proofs.YtchokfgffnomoaaDoor.Lx
open Go.RowKit
set_option maxRecDepth 100000
set_option linter.unusedVariables false
set_option linter.unusedSimpArgs false
/-- A slice of bytes that came in: its numbers are xs. -/
def IsBytes (w : World) (a : Option Addr) (len : Nat) (xs : List Nat) : Prop :=
  xs.length = len ∧ len ≤ 4611686018427387904 ∧ (∀ i, xs.getD i 0 < 256) ∧ (len = 0 ∨ ∃ b off, a = some ⟨b, off, none⟩ ∧ ∀ i, i < len → w.cell? ⟨b, off + i, none⟩ = some (.int .u8 (xs.getD i 0 : Nat)))
theorem IsBytes.below {w w' : World} {a : Option Addr} {len : Nat} {xs : List Nat} (h : IsBytes w a len xs) (hb : Below w.heap.size w w') : IsBytes w' a len xs := by
  obtain ⟨hl, hm, hw, h | ⟨b, off, rfl, hc⟩⟩ := h
  · exact ⟨hl, hm, hw, .inl h⟩
  · refine ⟨hl, hm, hw, .inr ⟨b, off, rfl, fun i hi => ?_⟩⟩
    have h0 := hc i hi
    rw [hb.cell (p := ⟨b, off + i, none⟩) (World.block_lt_of_cell? w _ h0)]
    exact h0
theorem IsBytes.at {w : World} {a : Option Addr} {len : Nat} {xs : List Nat} (h : IsBytes w a len xs) (h0 : 0 < len) : ∃ b off, a = some ⟨b, off, none⟩ ∧ ∀ i, i < len → w.cell? ⟨b, off + i, none⟩ = some (.int .u8 (xs.getD i 0 : Nat)) := by
  obtain ⟨_, _, _, h | h⟩ := h
  · omega
  · exact h
end Go.Proofs.YtchokfgffnomoaaDoor.Lx
/-
  What a maker of programs out of numbers tells: Made, Pick, names of locations and registers, as contracts.
-/
namespace Go.Proofs.YtchokfgffnomoaaDoor.Lx
open Go.RowKit
set_option maxRecDepth 100000
set_option linter.unusedVariables false
set_option linter.unusedSimpArgs false
end Go.Proofs.YtchokfgffnomoaaDoor.Lx
/-
  PLAIN MATHEMATICS of programs that are made out of numbers: what they are made of, and that they can be shown, and how long that is. It proves nothing of Go.
-/
namespace Go.Proofs.YtchokfgffnomoaaDoor.P
open L (Tok)
set_option maxRecDepth 100000
set_option linter.unusedVariables false
set_option linter.unusedSimpArgs false
/-- Names of locations and of registers. -/
def locB (i : Nat) : UInt8 := [120, 121, 122, 119].getD i 120
def regB (i : Nat) : UInt8 := [97, 98, 99, 100].getD i 97
theorem na_of {s : List UInt8} (hw : Wo s) (h1 : Lx.kwB s = false) : Na s := by
  obtain ⟨b, r, hbr, hb, hx⟩ := hw
  exact ⟨⟨h1, b, r, hbr, hb⟩, b, r, hbr, hb, hx⟩
theorem na_loc (i : Nat) : Na [locB i] := by
  rcases i with _ | _ | _ | _ | i
  · exact na_of (s := [120]) (wo_of (by decide)) (by decide)
  · exact na_of (s := [121]) (wo_of (by decide)) (by decide)
  · exact na_of (s := [122]) (wo_of (by decide)) (by decide)
  · exact na_of (s := [119]) (wo_of (by decide)) (by decide)
  · exact na_of (s := [120]) (wo_of (by decide)) (by decide)
theorem na_reg (i : Nat) : Na [regB i] := by
  rcases i with _ | _ | _ | _ | i
  · exact na_of (s := [97]) (wo_of (by decide)) (by decide)
  · exact na_of (s := [98]) (wo_of (by decide)) (by decide)
  · exact na_of (s := [99]) (wo_of (by decide)) (by decide)
  · exact na_of (s := [100]) (wo_of (by decide)) (by decide)
  · exact na_of (s := [97]) (wo_of (by decide)) (by decide)
/-- Names of one letter. -/
def Ones (rs : List (List UInt8)) : Prop := ∀ s ∈ rs, Na s ∧ s.length = 1
/-- An expression that is made: values below v, registers of rs, so deep at most. -/
inductive MX (v : Nat) (rs : List (List UInt8)) : Nat → EX → Prop where
  | num {d n : Nat} (hn : n < v) : MX v rs d (.mk 1 n [] [])
  | reg {d : Nat} {s : List UInt8} (hs : s ∈ rs) : MX v rs d (.mk 2 0 s [])
  | bin {d : Nat} {op : Int} {s : List UInt8} {a b : EX} (h : Sign2 op s) (ha : MX v rs d a) (hb : MX v rs d b) : MX v rs (d + 1) (.mk op 0 [] [a, b])
def lx : Nat → Nat
  | 0 => 1
  | d + 1 => 2 * lx d + 6
theorem lx_pos : ∀ d, 1 ≤ lx d
  | 0 => Nat.le_refl _
  | d + 1 => by
    unfold lx
    omega
theorem dec_one {n : Nat} (h : n < 10) : (L.decL n).length = 1 := by rw [L.dec_small h]; rfl
theorem MX.shown {v : Nat} {rs : List (List UInt8)} {d : Nat} {e : EX} (h : MX v rs d e) (hv : v ≤ 10) (hr : Ones rs) : ∃ t b, TX e t b ∧ t.length ≤ lx d := by
  induction h with
  | @num d n hn =>
    refine ⟨_, _, .num (by unfold L.top; omega), ?_⟩
    rw [dec_one (by omega)]
    exact lx_pos d
  | @reg d s hs =>
    obtain ⟨h1, h2⟩ := hr s hs
    refine ⟨_, _, .reg h1, ?_⟩
    rw [h2]
    exact lx_pos d
  | @bin d op s a b h ha hb iha ihb =>
    obtain ⟨ta, ba, ha, la⟩ := iha
    obtain ⟨tb, bb, hb, lb⟩ := ihb
    refine ⟨_, _, .bin h ha hb, ?_⟩
    have hs : s.length ≤ 2 := by cases h <;> decide
    simp only [List.length_append, List.length_cons, List.length_nil, lx]
    omega
/-- Registers with one more. -/
def wth (rs : List (List UInt8)) (s : List UInt8) : List (List UInt8) := if s ∈ rs then rs else rs ++ [s]
theorem Ones.wth {rs : List (List UInt8)} (h : Ones rs) {s : List UInt8} (hs : Na s ∧ s.length = 1) : Ones (wth rs s) := by
  unfold P.wth
  split
  · exact h
  · intro x hx
    rcases List.mem_append.1 hx with hx | hx
    · exact h x hx
    · rw [List.mem_singleton.1 hx]
      exact hs
theorem wth_len (rs : List (List UInt8)) (s : List UInt8) : (wth rs s).length ≤ rs.length + 1 := by
  unfold wth
  split <;> simp
/-- A statement within nothing that is made, with the registers ahead and behind. -/
inductive M0 (v k : Nat) : List (List UInt8) → ST → List (List UInt8) → Prop where
  | load {m i j : Nat} {rs : List (List UInt8)} (hm : m = 0 ∨ m = 1 ∨ m = 4) (hi : i < 4) (hj : j < k) : M0 v k rs (.mk 2 m [regB i] [locB j] [] [] []) (wth rs [regB i])
  | store {m j : Nat} {rs : List (List UInt8)} {e : EX} (hm : m = 0 ∨ m = 2 ∨ m = 4) (hj : j < k) (he : MX v rs 1 e) : M0 v k rs (.mk 3 m [] [locB j] [e] [] []) rs
  | add {m i j : Nat} {rs : List (List UInt8)} {e : EX} (hm : m < 5) (hi : i < 4) (hj : j < k) (he : MX v rs 1 e) : M0 v k rs (.mk 4 m [regB i] [locB j] [e] [] []) (wth rs [regB i])
  | cas {m i j : Nat} {rs : List (List UInt8)} {e f : EX} (hm : m < 5) (hi : i < 4) (hj : j < k) (he : MX v rs 0 e) (hf : MX v rs 0 f) : M0 v k rs (.mk 5 m [regB i] [locB j] [e, f] [] []) (wth rs [regB i])
  | fence {m : Nat} {rs : List (List UInt8)} (hm : 1 ≤ m) (hm5 : m < 5) : M0 v k rs (.mk 6 m [] [] [] [] []) rs
  | set {i : Nat} {rs : List (List UInt8)} {e : EX} (hi : i < 4) (he : MX v rs 2 e) : M0 v k rs (.mk 1 0 [regB i] [] [e] [] []) (wth rs [regB i])
/-- Statements one behind the other. -/
inductive Sq (R : List (List UInt8) → ST → List (List UInt8) → Prop) : List (List UInt8) → List ST → List (List UInt8) → Prop where
  | nil {rs : List (List UInt8)} : Sq R rs [] rs
  | snoc {r0 r1 r2 : List (List UInt8)} {l : List ST} {s : ST} (hl : Sq R r0 l r1) (hs : R r1 s r2) : Sq R r0 (l ++ [s]) r2
/-- A statement that is made, ifs so deep at most. -/
def MS (v k : Nat) : Nat → List (List UInt8) → ST → List (List UInt8) → Prop
  | 0, rs, s, r => M0 v k rs s r
  | d + 1, rs, s, r => M0 v k rs s r ∨ (r = rs ∧ ∃ e th el r1 r2, s = .mk 7 0 [] [] [e] th el ∧ MX v rs 1 e ∧ Sq (MS v k d) rs th r1 ∧ th.length ≤ 1 ∧ Sq (MS v k d) rs el r2 ∧ el.length ≤ 1)
abbrev MSs (v k d : Nat) := Sq (MS v k d)
theorem M0.ms {v k : Nat} {rs r : List (List UInt8)} {s : ST} (h : M0 v k rs s r) : ∀ d, MS v k d rs s r
  | 0 => h
  | d + 1 => .inl h
/-- How long a statement's text may be, so deep, so far inwards. -/
def lsb : Nat → Nat → Nat
  | 0, x => 2 * x + 50
  | d + 1, x => 6 * x + 60 + 2 * lsb d (x + 1)
theorem lsb_ge : ∀ d x, 2 * x + 50 ≤ lsb d x
  | 0, x => Nat.le_refl _
  | d + 1, x => by
    unfold lsb
    omega
theorem mode_len : ∀ m, m < 5 → (modeT m).length ≤ 6 := by decide
theorem TSs.snoc {x : Nat} {l : List ST} {t : List UInt8} {b : List Bo} {q : List Nat} (h : TSs x l t b q) {s : ST} {ts : List UInt8} {bs : List Bo} {qs : List Nat} (hs : TS x s ts bs qs) : ∃ q', TSs x (l ++ [s]) (t ++ ts) (b ++ bs) q' := by
  match l, t, b, q, h with
  | [], _, _, _, .nil =>
    have h1 := TSs.cons hs (.nil (d := x))
    simp only [List.append_nil] at h1
    exact ⟨_, by simpa using h1⟩
  | s0 :: l, _, _, _, .cons h0 hl =>
    obtain ⟨q', h1⟩ := TSs.snoc hl hs
    have h2 := TSs.cons h0 h1
    simp only [List.append_assoc] at h2 ⊢
    exact ⟨_, h2⟩
theorem len_ind (x : Nat) : (ind x).length = 2 * x := by simp [ind]
theorem M0.shown {v k : Nat} {rs r2 : List (List UInt8)} {s : ST} (h : M0 v k rs s r2) (hv : v ≤ 10) (hr : Ones rs) (x : Nat) : Ones r2 ∧ ∃ t b q, TS x s t b q ∧ t.length ≤ 2 * x + 50 := by
  have hreg : ∀ i, Na [regB i] ∧ ([regB i] : List UInt8).length = 1 := fun i => ⟨na_reg i, rfl⟩
  cases h with
  | @load m i j _ hm hi hj =>
    have hm5 : m < 5 := by omega
    refine ⟨hr.wth (hreg i), _, _, _, .load hm5 (na_reg i) (na_loc j), ?_⟩
    have := mode_len m hm5
    simp only [List.length_append, List.length_cons, List.length_nil, len_ind]
    omega
  | @store m j _ e hm hj he =>
    have hm5 : m < 5 := by omega
    obtain ⟨t, b, he, hl⟩ := he.shown hv hr
    refine ⟨hr, _, _, _, .store hm5 (na_loc j) he, ?_⟩
    have := mode_len m hm5
    have e1 : lx 1 = 8 := rfl
    simp only [List.length_append, List.length_cons, List.length_nil, len_ind]
    omega
  | @add m i j _ e hm hi hj he =>
    obtain ⟨t, b, he, hl⟩ := he.shown hv hr
    refine ⟨hr.wth (hreg i), _, _, _, .add hm (na_reg i) (na_loc j) he, ?_⟩
    have := mode_len m hm
    have e1 : lx 1 = 8 := rfl
    simp only [List.length_append, List.length_cons, List.length_nil, len_ind]
    omega
  | @cas m i j _ e f hm hi hj he hf =>
    obtain ⟨t, b, he, hl⟩ := he.shown hv hr
    obtain ⟨t2, b2, hf, hl2⟩ := hf.shown hv hr
    refine ⟨hr.wth (hreg i), _, _, _, .cas hm (na_reg i) (na_loc j) he hf, ?_⟩
    have := mode_len m hm
    have e1 : lx 0 = 1 := rfl
    simp only [List.length_append, List.length_cons, List.length_nil, len_ind]
    omega
  | @fence m _ hm hm5 =>
    refine ⟨hr, _, _, _, .fence hm5, ?_⟩
    have := mode_len m hm5
    simp only [List.length_append, List.length_cons, List.length_nil, len_ind]
    omega
  | @set i _ e hi he =>
    obtain ⟨t, b, he, hl⟩ := he.shown hv hr
    refine ⟨hr.wth (hreg i), _, _, _, .set (na_reg i) he, ?_⟩
    have e1 : lx 2 = 22 := rfl
    simp only [List.length_append, List.length_cons, List.length_nil, len_ind]
    omega
theorem Sq.shown {R : List (List UInt8) → ST → List (List UInt8) → Prop} {x B : Nat} (hR : ∀ rs s r2, Ones rs → R rs s r2 → Ones r2 ∧ ∃ t b q, TS x s t b q ∧ t.length ≤ B) {rs r2 : List (List UInt8)} {l : List ST} (h : Sq R rs l r2) (hr : Ones rs) : Ones r2 ∧ ∃ t b q, TSs x l t b q ∧ t.length ≤ l.length * B := by
  induction h with
  | nil => exact ⟨hr, _, _, _, .nil, by simp⟩
  | @snoc r1 r2 l s hl hs ih =>
    obtain ⟨o1, t1, b1, q1, h1, l1⟩ := ih
    obtain ⟨o2, t2, b2, q2, h2, l2⟩ := hR _ _ _ o1 hs
    obtain ⟨q', h3⟩ := h1.snoc h2
    refine ⟨o2, _, _, _, h3, ?_⟩
    rw [List.length_append, List.length_append, List.length_cons, List.length_nil, Nat.add_mul, Nat.one_mul]
    omega
theorem MS.shown {v k : Nat} (hv : v ≤ 10) : ∀ (d x : Nat) (rs : List (List UInt8)) (s : ST) (r2 : List (List UInt8)), Ones rs → MS v k d rs s r2 → Ones r2 ∧ ∃ t b q, TS x s t b q ∧ t.length ≤ lsb d x
  | 0, x, rs, s, r2, hr, h => M0.shown h hv hr x
  | d + 1, x, rs, s, r2, hr, h => by
    have hb := lsb_ge (d + 1) x
    rcases h with h | ⟨rfl, e, th, el, r1, r3, rfl, he, ht, h1, hel, h2⟩
    · obtain ⟨o, t, b, q, h3, h4⟩ := M0.shown h hv hr x
      exact ⟨o, t, b, q, h3, by omega⟩
    obtain ⟨t, b, he, hl⟩ := he.shown hv hr
    obtain ⟨_, t1, b1, q1, ht, hl1⟩ := ht.shown (fun rs s r2 => MS.shown hv d (x + 1) rs s r2) hr
    obtain ⟨_, t2, b2, q2, hel', hl2⟩ := hel.shown (fun rs s r2 => MS.shown hv d (x + 1) rs s r2) hr
    refine ⟨hr, ?_⟩
    have e1 : lx 1 = 8 := rfl
    have m1 : th.length * lsb d (x + 1) ≤ 1 * lsb d (x + 1) := Nat.mul_le_mul_right _ h1
    have m2 : el.length * lsb d (x + 1) ≤ 1 * lsb d (x + 1) := Nat.mul_le_mul_right _ h2
    by_cases hn : el = []
    · subst hn
      refine ⟨_, _, _, .ifs he ht, ?_⟩
      simp only [List.length_append, List.length_cons, List.length_nil, len_ind, lsb]
      omega
    · refine ⟨_, _, _, .ife he ht hn hel', ?_⟩
      simp only [List.length_append, List.length_cons, List.length_nil, len_ind, lsb]
      omega
/-- A condition that is made: registers of the threads. -/
inductive MC (v k : Nat) (rg : List (List (List UInt8))) : Nat → CO → Prop where
  | mem {d j n : Nat} (hj : j < k) (hn : n < v) : MC v k rg d (.mk 1 0 [locB j] n [])
  | reg {d t n : Nat} {rs : List (List UInt8)} {s : List UInt8} (ht : rg[t]? = some rs) (hs : s ∈ rs) (hn : n < v) : MC v k rg d (.mk 2 t s n [])
  | not {d : Nat} {a : CO} (ha : MC v k rg d a) : MC v k rg (d + 1) (.mk 3 0 [] 0 [a])
  | and {d : Nat} {a b : CO} (ha : MC v k rg d a) (hb : MC v k rg d b) : MC v k rg (d + 1) (.mk 4 0 [] 0 [a, b])
  | or {d : Nat} {a b : CO} (ha : MC v k rg d a) (hb : MC v k rg d b) : MC v k rg (d + 1) (.mk 5 0 [] 0 [a, b])
def lc : Nat → Nat
  | 0 => 30
  | d + 1 => 2 * lc d + 10
theorem lc_ge : ∀ d, 30 ≤ lc d
  | 0 => Nat.le_refl _
  | d + 1 => by
    have := lc_ge d
    unfold lc
    omega
theorem MC.shown {v k : Nat} {rg : List (List (List UInt8))} {d : Nat} {c : CO} (h : MC v k rg d c) (hv : v ≤ 10) (hr : ∀ rs ∈ rg, Ones rs) (hl : rg.length ≤ 10) : ∃ t b, TC c t b ∧ t.length ≤ lc d := by
  induction h with
  | @mem d j n hj hn =>
    refine ⟨_, _, .mem (na_loc j) (by unfold L.top; omega), ?_⟩
    have := lc_ge d
    simp only [List.length_append, List.length_cons, List.length_nil, dec_one (show n < 10 by omega)]
    omega
  | @reg d t n rs s ht hs hn =>
    obtain ⟨h1, h2⟩ := hr rs (List.mem_of_getElem? ht) s hs
    obtain ⟨htl, _⟩ := List.getElem?_eq_some_iff.1 ht
    refine ⟨_, _, .reg h1 (by unfold L.top; omega) (by unfold L.top; omega), ?_⟩
    have := lc_ge d
    simp only [List.length_append, List.length_cons, List.length_nil, dec_one (show n < 10 by omega), dec_one (show t < 10 by omega)]
    omega
  | not ha iha =>
    obtain ⟨t, b, h, hl⟩ := iha
    refine ⟨_, _, .not h, ?_⟩
    simp only [List.length_append, List.length_cons, List.length_nil, lc]
    omega
  | and ha hb iha ihb =>
    obtain ⟨t, b, h, hl⟩ := iha
    obtain ⟨t2, b2, h2, hl2⟩ := ihb
    refine ⟨_, _, .and h h2, ?_⟩
    simp only [List.length_append, List.length_cons, List.length_nil, lc]
    omega
  | or ha hb iha ihb =>
    obtain ⟨t, b, h, hl⟩ := iha
    obtain ⟨t2, b2, h2, hl2⟩ := ihb
    refine ⟨_, _, .or h h2, ?_⟩
    simp only [List.length_append, List.length_cons, List.length_nil, lc]
    omega
/-- Inits that are made: of the first locations. -/
def MI (v : Nat) (cs : List (List UInt8 × Int)) : Prop := ∀ i c, cs[i]? = some c → ∃ n : Nat, n < v ∧ c = ([locB i], (n : Int))
/-- Threads that are made, with the registers of each. -/
inductive MT (v k m d : Nat) : List (List ST) → List (List (List UInt8)) → Prop where
  | nil : MT v k m d [] []
  | snoc {ls : List (List ST)} {rg : List (List (List UInt8))} {l : List ST} {r : List (List UInt8)} (h : MT v k m d ls rg) (hl : MSs v k d [] l r) (hn : l.length ≤ m) : MT v k m d (ls ++ [l]) (rg ++ [r])
theorem MT.len {v k m d : Nat} {ls : List (List ST)} {rg : List (List (List UInt8))} (h : MT v k m d ls rg) : rg.length = ls.length := by
  induction h with
  | nil => rfl
  | snoc h hl hn ih => simp [ih]
theorem ones_nil : Ones [] := fun s hs => by cases hs
theorem TT.snoc {ls : List (List ST)} {t : List UInt8} {b : List Bo} {q : List Nat} (h : TT ls t b q) {l : List ST} {tl : List UInt8} {bl : List Bo} {ql : List Nat} (hl : TSs 1 l tl bl ql) : ∃ b' q', TT (ls ++ [l]) (t ++ (([116, 104, 114, 101, 97, 100] ++ [32]) ++ (([123] ++ [10]) ++ (tl ++ ([125] ++ [10]))))) b' q' := by
  induction h with
  | nil =>
    have h1 := TT.cons hl .nil
    simp only [List.append_nil] at h1
    exact ⟨_, _, h1⟩
  | cons h0 h ih =>
    obtain ⟨b', q', h1⟩ := ih
    have h2 := TT.cons h0 h1
    rw [← List.append_assoc] at h2
    exact ⟨_, _, h2⟩
theorem MT.shown {v k m d : Nat} {ls : List (List ST)} {rg : List (List (List UInt8))} (h : MT v k m d ls rg) (hv : v ≤ 10) : (∀ rs ∈ rg, Ones rs) ∧ ∃ t b q, TT ls t b q ∧ t.length ≤ ls.length * (m * lsb d 1 + 20) := by
  induction h with
  | nil => exact ⟨fun rs h => (by cases h), _, _, _, .nil, (by simp)⟩
  | @snoc ls rg l r h hl hn ih =>
    obtain ⟨o1, t, b, q, h1, l1⟩ := ih
    obtain ⟨o2, t2, b2, q2, h2, l2⟩ := hl.shown (fun rs s r2 => MS.shown hv d 1 rs s r2) ones_nil
    obtain ⟨b', q', h3⟩ := h1.snoc h2
    refine ⟨fun rs hrs => ?_, _, _, _, h3, ?_⟩
    · rcases List.mem_append.1 hrs with hx | hx
      · exact o1 rs hx
      · rw [List.mem_singleton.1 hx]
        exact o2
    · have m1 : l.length * lsb d 1 ≤ m * lsb d 1 := Nat.mul_le_mul_right _ hn
      simp only [List.length_append, List.length_cons, List.length_nil, Nat.add_mul, Nat.one_mul, Nat.zero_add]
      omega
theorem MI.front {v : Nat} {cs : List (List UInt8 × Int)} (h : MI v cs) (hv : v ≤ 10) : ∃ t b q, TI cs t b q ∧ t.length ≤ cs.length * 20 := by
  have key : ∀ cs : List (List UInt8 × Int), (∀ c ∈ cs, ∃ i n : Nat, n < v ∧ c = ([locB i], (n : Int))) → ∃ t b q, TI cs t b q ∧ t.length ≤ cs.length * 20 := by
    intro cs
    induction cs with
    | nil => exact fun _ => ⟨_, _, _, .nil, by simp⟩
    | cons c cs ih =>
      intro h
      obtain ⟨i, n, hn, rfl⟩ := h c (by simp)
      obtain ⟨t, b, q, h1, l1⟩ := ih fun c hc => h c (by simp [hc])
      refine ⟨_, _, _, .cons (na_loc i) (by unfold L.top; omega) h1, ?_⟩
      simp only [List.length_append, List.length_cons, List.length_nil, dec_one (show n < 10 by omega), Nat.add_mul, Nat.one_mul]
      omega
  refine key cs fun c hc => ?_
  obtain ⟨i, hi, rfl⟩ := List.getElem_of_mem hc
  obtain ⟨n, hn, e⟩ := h i _ (List.getElem?_eq_getElem hi)
  exact ⟨i, n, hn, e⟩
/-- A program that is made: v values, k locations, threads of m statements, ifs so deep. -/
structure MP (v k m d : Nat) (p : PG) : Prop where
  name : p.name = [109, 97, 100, 101]
  vals : p.vals = (v : Int)
  init : MI v p.init
  locs : p.init.length = k
  ask : ∃ a : Nat, p.ask = (a : Int) ∧ (a = 1 ∨ a = 2)
  body : ∃ rg, MT v k m d p.threads rg ∧ MC v k rg 2 p.cond
theorem MP.shown {v k m d : Nat} {p : PG} (h : MP v k m d p) (hv : v ≤ 9) (hk : k ≤ 10) (hl : p.threads.length ≤ 10) : ∃ t b q1 q2 q3, TP p t b q1 q2 q3 ∧ t.length ≤ 600 + 10 * (m * lsb d 1 + 20) := by
  obtain ⟨nm, vs, cs, ls, ak, c⟩ := p
  obtain ⟨h1, h2, h3, h4, ⟨a, h5, ha⟩, rg, h6, h7⟩ := h
  simp only at h1 h2 h3 h4 h5 h6 h7 hl
  subst h1 h2 h5
  obtain ⟨o1, tt, bt, qt, ht, lt⟩ := h6.shown (by omega)
  obtain ⟨tc, bc, hc, lcc⟩ := h7.shown (by omega) o1 (by rw [h6.len]; omega)
  obtain ⟨ti, bi, qi, hi, li⟩ := h3.front (by omega)
  refine ⟨_, _, _, _, _, .mk (na_of (wo_of (by decide)) (by decide)) (by unfold L.top; omega) hi ht ha hc, ?_⟩
  have e1 : lc 2 = 150 := rfl
  have e2 : (askW a).length = 6 := by rcases ha with rfl | rfl <;> rfl
  have m1 : ls.length * (m * lsb d 1 + 20) ≤ 10 * (m * lsb d 1 + 20) := Nat.mul_le_mul_right _ hl
  have m2 : cs.length * 20 ≤ 10 * 20 := Nat.mul_le_mul_right _ (by omega)
  simp only [List.length_append, List.length_cons, List.length_nil, dec_one (show v < 10 by omega), e2]
  omega
end Go.Proofs.YtchokfgffnomoaaDoor.P
/-
  What names and modes of a maker are, as contracts: Loc, Reg, mode, with.
-/
namespace Go.Proofs.YtchokfgffnomoaaDoor.Lx
open Go.RowKit
open P (locB regB wth)
set_option maxRecDepth 100000
set_option linter.unusedVariables false
set_option linter.unusedSimpArgs false
/-- A row of numbers. -/
def Ints (w : World) (g : Nat) (ms : List Nat) : Prop := ∀ i, i < ms.length → w.cell? ⟨g, 0 + i, none⟩ = some (.int .i64 (ms.getD i 0 : Nat))
theorem getD_mem {ms : List Nat} {i : Nat} (h : i < ms.length) : ms.getD i 0 ∈ ms := by
  rw [List.getD_eq_getElem?_getD, List.getElem?_eq_getElem h]
  exact List.getElem_mem h
/-- A row of numbers that was just made. -/
theorem ints_new {w : World} {t : TypeId} {ms : List Nat} {g : Nat} (h : Blk w g t (ms.map fun m => Value.int .i64 (m : Nat)).toArray) : Ints w g ms := by
  intro i hi
  rw [Nat.zero_add, h.cell]
  simp [hi]
/-- A slice of names. -/
def Nms (Q : Nat → Prop) (w : World) (v : Value) (rs : List (List UInt8)) : Prop := ∃ a cap, v = .slice a rs.length cap ∧ (rs = [] ∨ ∃ g off, a = some ⟨g, off, none⟩ ∧ Q g ∧ ∀ i, i < rs.length → w.cell? ⟨g, off + i, none⟩ = some (.string (bs (rs.getD i []))))
theorem Nms.keep {Q : Nat → Prop} {w w' : World} {v : Value} {rs : List (List UInt8)} (h : Nms Q w v rs) (hk : Keeps Q w w') : Nms Q w' v rs := by
  obtain ⟨a, cap, rfl, h⟩ := h
  refine ⟨a, cap, rfl, ?_⟩
  rcases h with h | ⟨g, off, ha, hg, hc⟩
  · exact .inl h
  · exact .inr ⟨g, off, ha, hg, fun i hi => hk.cell hg (hc i hi)⟩
theorem Nms.mono {Q Q' : Nat → Prop} {w : World} {v : Value} {rs : List (List UInt8)} (h : Nms Q w v rs) (hq : ∀ g, Q g → g < w.heap.size → Q' g) : Nms Q' w v rs := by
  obtain ⟨a, cap, rfl, h⟩ := h
  refine ⟨a, cap, rfl, ?_⟩
  rcases h with h | ⟨g, off, ha, hg, hc⟩
  · exact .inl h
  · by_cases h0 : rs = []
    · exact .inl h0
    · have hl : 0 < rs.length := List.length_pos_iff.2 h0
      exact .inr ⟨g, off, ha, hq g hg (World.block_lt_of_cell? w _ (hc 0 hl)), hc⟩
theorem nms_nil (Q : Nat → Prop) (w : World) : Nms Q w (.slice none 0 0) [] := ⟨none, 0, rfl, .inl rfl⟩
end Go.Proofs.YtchokfgffnomoaaDoor.Lx
/-
  What with of a maker tells, as a contract: names with one more.
-/
namespace Go.Proofs.YtchokfgffnomoaaDoor.Lx
open Go.RowKit
open P (locB regB wth)
set_option maxRecDepth 100000
set_option linter.unusedVariables false
set_option linter.unusedSimpArgs false
theorem Tryd.infoStr : (Tryd.prog.info? 9).map (fun i => (i.zero, i.size, i.bytes)) = some (some (.string ⟨#[]⟩), 1, 16) := by kernel_rfl
def WithTo (Q : Nat → Prop) (rs : List (List UInt8)) (w : World) (e : Ending) (w' : World) : Prop := ∃ v, e = .returned v ∧ Nms (fun b => Q b ∨ w.heap.size ≤ b) w' v rs ∧ Below w.heap.size w w'
/-- None of the first names is s. -/
def NotYet (rs : List (List UInt8)) (s : List UInt8) (k : Nat) : Prop := ∀ i, i < k → rs.getD i [] ≠ s
theorem wth_in {rs : List (List UInt8)} {s : List UInt8} {i : Nat} (hi : i < rs.length) (h : rs.getD i [] = s) : wth rs s = rs := by
  unfold P.wth
  rw [if_pos]
  rw [← h, List.getD_eq_getElem?_getD, List.getElem?_eq_getElem hi]
  exact List.getElem_mem hi
theorem wth_out {rs : List (List UInt8)} {s : List UInt8} (h : NotYet rs s rs.length) : wth rs s = rs ++ [s] := by
  unfold P.wth
  rw [if_neg]
  intro hm
  obtain ⟨i, hi, e⟩ := List.getElem_of_mem hm
  refine h i hi ?_
  rw [List.getD_eq_getElem?_getD, List.getElem?_eq_getElem hi]
  exact e
def strs (rs : List (List UInt8)) : List Value := rs.map fun s => .string (bs s)
theorem strs_one (rs : List (List UInt8)) : ∀ u ∈ strs rs, u.oneCell' = true := by
  intro u hu
  obtain ⟨s, _, rfl⟩ := List.mem_map.1 hu
  rfl
theorem strs_at (rs : List (List UInt8)) (j : Nat) (u : Value) (h : (strs rs)[j]? = some u) : j < rs.length ∧ u = .string (bs (rs.getD j [])) := by
  unfold strs at h
  rw [List.getElem?_map] at h
  cases e : rs[j]? with
  | none => rw [e] at h; cases h
  | some x =>
    rw [e] at h
    obtain ⟨hl, _⟩ := List.getElem?_eq_some_iff.1 e
    refine ⟨hl, ?_⟩
    rw [List.getD_eq_getElem?_getD, e]
    exact (Option.some.inj h).symm
/-- A row of strings of one's own is a slice of names. -/
theorem nms_own {w : World} {base g cap : Nat} {rs : List (List UInt8)} {Q : Nat → Prop} (h : w.ownsRow base 9 1 (.slice (some ⟨g, 0, none⟩) rs.length cap) rs.length (strs rs)) (hq : Q g) : Nms Q w (.slice (some ⟨g, 0, none⟩) rs.length cap) rs := by
  refine ⟨_, cap, rfl, ?_⟩
  rcases h.2 with ⟨h0, _⟩ | ⟨g', cap', cur, hv, hg, hh, hn, hcm, hs, ht⟩
  · cases h0
  · cases hv
    refine .inr ⟨g, 0, rfl, hq, fun i hi => ?_⟩
    have hB : Blk w g 9 cur := hh
    rw [Nat.zero_add, hB.cell]
    have h1 : (strs rs)[i]? = some (.string (bs (rs.getD i []))) := by
      unfold strs
      rw [List.getElem?_map, List.getD_eq_getElem?_getD, List.getElem?_eq_getElem hi]
      rfl
    rw [← ht, List.getElem?_take] at h1
    split at h1
    · simpa using h1
    · cases h1
theorem new_one1 (w : World) (u : Value) (t : TypeId) : ∀ j x, [u][j]? = some x → (w.alloc (.cells #[u] t)).cell? ((⟨w.heap.size, 0, none⟩ : Addr).add j) = some x := by
  intro j x h
  have hB := Blk.new w t #[u]
  have h2 := hB.cell j
  match j, h with
  | 0, h =>
    rw [show ((⟨w.heap.size, 0, none⟩ : Addr).add 0) = ⟨w.heap.size, 0, none⟩ by simp [Addr.add]]
    rw [h2]
    simpa using h
  | j + 1, h => simp at h
theorem ownk {k n : Nat} {v : Value} (h : v.ownBlock = some k) (hv : ∀ k, v.ownBlock = some k → n ≤ k) : n ≤ k := hv k h
end Go.Proofs.YtchokfgffnomoaaDoor.Lx
/-
  What package eval tells of any expression over any registers, as contracts.
-/
namespace Go.Proofs.YtchokfgffnomoaaDoor.Lx
open Go.RowKit
open P (EX ev ev2 plI jn)
set_option maxRecDepth 100000
set_option linter.unusedVariables false
set_option linter.unusedSimpArgs false
/-- A slice of ints. -/
def Ivs (Q : Nat → Prop) (w : World) (v : Value) (vs : List Int) : Prop := ∃ a cap, v = .slice a vs.length cap ∧ (vs = [] ∨ ∃ g off, a = some ⟨g, off, none⟩ ∧ Q g ∧ ∀ i, i < vs.length → w.cell? ⟨g, off + i, none⟩ = some (.int .i64 (vs.getD i 0)))
theorem Ivs.keep {Q : Nat → Prop} {w w' : World} {v : Value} {vs : List Int} (h : Ivs Q w v vs) (hk : Keeps Q w w') : Ivs Q w' v vs := by
  obtain ⟨a, c, rfl, h⟩ := h
  refine ⟨a, c, rfl, ?_⟩
  rcases h with h | ⟨g, off, ha, hg, hc⟩
  · exact .inl h
  · exact .inr ⟨g, off, ha, hg, fun i hi => hk.cell hg (hc i hi)⟩
/-- Registers and their values, how many values there are. -/
structure EvIn (w : World) (ar av : Option Addr) (cr cv : Nat) (rs : List (List UInt8)) (vs : List Int) (n : Int) : Prop where
  nms : Nms (fun _ => True) w (.slice ar rs.length cr) rs
  ivs : Ivs (fun _ => True) w (.slice av vs.length cv) vs
  len : vs.length = rs.length
  max : rs.length ≤ 1000
  i64 : ∀ i, W64 (vs.getD i 0)
  n2 : 2 ≤ n
  n4 : n ≤ 4
theorem EvIn.below {w w' : World} {ar av : Option Addr} {cr cv : Nat} {rs : List (List UInt8)} {vs : List Int} {n : Int} (h : EvIn w ar av cr cv rs vs n) (hb : Below w.heap.size w w') : EvIn w' ar av cr cv rs vs n :=
  ⟨h.nms.keep (Keeps.below hb (Nat.le_refl _)), h.ivs.keep (Keeps.below hb (Nat.le_refl _)), h.len, h.max, h.i64, h.n2, h.n4⟩
/-- What is told of what an expression comes to. -/
def evR (r : Option Int) : Value := .tuple #[.int .i64 (r.getD 0), .bool r.isSome]
def EvTo (r : Option Int) (w : World) (e : Ending) (w' : World) : Prop := e = .returned (evR r) ∧ Below w.heap.size w w'
theorem wi64 {n : Int} (h : W64 n) : Wr.I64 n := Wr.I64.mk h.1 h.2
theorem LX.low {w w' : World} {v : Value} {e : EX} (h : LX (fun _ => True) w v e) (hb : Below w.heap.size w w') : LX (fun _ => True) w' v e := LX.keep (Keeps.below hb (Nat.le_refl _)) e h

set_option maxHeartbeats 1600000 in
theorem sindex_any (rs : List (List UInt8)) (s : List UInt8) (Q : Nat → Prop) (v : Value) (w : World) (hv : Nms Q w v rs) (hm : rs.length ≤ 1000000) :
    Calls Tryd.prog 99 #[v, .string (bs s)] w (fun e w' => e = .returned (.int .i64 (plI s rs)) ∧ w = w') := by
  obtain ⟨a, cap, rfl, hc⟩ := hv
  have HC := Lib.hid hc
  have HR : Hid (∀ k : Int, plI s rs = k → plI s rs = k) := Lib.hid (fun k h => h)
  clear hc
  generalize hP : plI s rs = PL at *
  have HP := Lib.hid hP
  clear hP
  generalize hS : bs s = S at *
  have HS := Lib.hid hS
  clear hS
  go_enter Tryd.func99, Tryd.ntmps99
  go_wp2_with fail
  go_loop [8] (fun t => ∃ j : Nat, t = .int .i64 j ∧ j ≤ rs.length ∧ NotYet rs s j) (fun t => rs.length - (intOf t).toNat)
  case atStart => exact ⟨0, rfl, Nat.zero_le _, fun i hi => by omega⟩
  case round =>
    obtain ⟨j, rfl, hj, hny⟩ := hrel
    have HNY := Lib.hid hny
    clear hny
    by_cases hlt : j < rs.length
    · obtain ⟨g, off, hg, hq, hcell⟩ : ∃ g off, a = some ⟨g, off, none⟩ ∧ Q g ∧ ∀ i, i < rs.length → w.cell? ⟨g, off + i, none⟩ = some (.string (bs (rs.getD i []))) := by
        rcases HC.out with h0 | h0
        · rw [h0] at hlt
          simp at hlt
        · exact h0
      subst hg
      have hcj := hcell j hlt
      have d1 : (0 : Int) ≤ (j : Int) := by omega
      have d2 : (j : Int) < (rs.length : Int) := by omega
      have ht : (S.toList == (bs (rs.getD j [])).toList) = (rs.getD j [] == s) := by
        rw [toList_by, toList_by, ← HS.out, by_bs, by_bs]
        exact Bool.eq_iff_iff.2 ⟨fun h => by rw [eq_of_beq h]; exact beq_self_eq_true _, fun h => by rw [eq_of_beq h]; exact beq_self_eq_true _⟩
      have HJ := Lib.hid (show ∀ b, (rs.getD j [] == s) = b → (b = true → rs.getD j [] = s) ∧ (b = false → rs.getD j [] ≠ s) from fun b hb => ⟨fun h => eq_of_beq (hb.trans h), fun h e => by rw [e, beq_self_eq_true] at hb; rw [← hb] at h; cases h⟩)
      clear hcell
      generalize bs (rs.getD j []) = X at *
      cases hb : (rs.getD j [] == s)
      all_goals
        rw [hb] at ht
        have HB := Lib.hid hb
        clear hb
      · go_wp2
        go_round
        case rel => exact ⟨j + 1, by go_num, by omega, fun i hi => (by
          by_cases e : i = j
          · subst e
            exact (HJ.out _ HB.out).2 rfl
          · exact HNY.out i (by omega))⟩
        case measure => simp [intOf]; omega
      · go_wp2
        go_ret
        have hk := P.plI_at (s := s) hlt HNY.out ((HJ.out _ HB.out).1 rfl)
        exact ⟨congrArg (fun z => Ending.returned (.int .i64 z)) (hk.symm.trans HP.out), rfl⟩
    · obtain rfl : j = rs.length := by omega
      have hk := Lib.hid (P.plI_none (s := s) (rs := rs) HNY.out)
      clear hlt
      go_wp2
      go_ret
      exact ⟨congrArg (fun z => Ending.returned (.int .i64 z)) (hk.out.symm.trans HP.out), rfl⟩

set_option maxHeartbeats 1600000 in
theorem rplace_any (rs : List (List UInt8)) (s : List UInt8) (Q : Nat → Prop) (v : Value) (w : World) (hv : Nms Q w v rs) (hm : rs.length ≤ 1000000) :
    Calls Tryd.prog 58 #[v, .string (bs s)] w (fun e w' => e = .returned (.int .i64 (plI s rs)) ∧ w = w') := by
  obtain ⟨a, cap, rfl, hc⟩ := hv
  have HC := Lib.hid hc
  have HR : Hid (∀ k : Int, plI s rs = k → plI s rs = k) := Lib.hid (fun k h => h)
  clear hc
  generalize hP : plI s rs = PL at *
  have HP := Lib.hid hP
  clear hP
  generalize hS : bs s = S at *
  have HS := Lib.hid hS
  clear hS
  go_enter Tryd.func58, Tryd.ntmps58
  go_wp2_with fail
  go_loop [5] (fun t => ∃ j : Nat, t = .int .i64 j ∧ j ≤ rs.length ∧ NotYet rs s j) (fun t => rs.length - (intOf t).toNat)
  case atStart => exact ⟨0, rfl, Nat.zero_le _, fun i hi => by omega⟩
  case round =>
    obtain ⟨j, rfl, hj, hny⟩ := hrel
    have HNY := Lib.hid hny
    clear hny
    by_cases hlt : j < rs.length
    · obtain ⟨g, off, hg, hq, hcell⟩ : ∃ g off, a = some ⟨g, off, none⟩ ∧ Q g ∧ ∀ i, i < rs.length → w.cell? ⟨g, off + i, none⟩ = some (.string (bs (rs.getD i []))) := by
        rcases HC.out with h0 | h0
        · rw [h0] at hlt
          simp at hlt
        · exact h0
      subst hg
      have hcj := hcell j hlt
      have d1 : (0 : Int) ≤ (j : Int) := by omega
      have d2 : (j : Int) < (rs.length : Int) := by omega
      have ht : ((bs (rs.getD j [])).toList == S.toList) = (rs.getD j [] == s) := by
        rw [toList_by, toList_by, ← HS.out, by_bs, by_bs]
        
      have HJ := Lib.hid (show ∀ b, (rs.getD j [] == s) = b → (b = true → rs.getD j [] = s) ∧ (b = false → rs.getD j [] ≠ s) from fun b hb => ⟨fun h => eq_of_beq (hb.trans h), fun h e => by rw [e, beq_self_eq_true] at hb; rw [← hb] at h; cases h⟩)
      clear hcell
      generalize bs (rs.getD j []) = X at *
      cases hb : (rs.getD j [] == s)
      all_goals
        rw [hb] at ht
        have HB := Lib.hid hb
        clear hb
      · go_wp2
        go_round
        case rel => exact ⟨j + 1, by go_num, by omega, fun i hi => (by
          by_cases e : i = j
          · subst e
            exact (HJ.out _ HB.out).2 rfl
          · exact HNY.out i (by omega))⟩
        case measure => simp [intOf]; omega
      · go_wp2
        go_ret
        have hk := P.plI_at (s := s) hlt HNY.out ((HJ.out _ HB.out).1 rfl)
        exact ⟨congrArg (fun z => Ending.returned (.int .i64 z)) (hk.symm.trans HP.out), rfl⟩
    · obtain rfl : j = rs.length := by omega
      have hk := Lib.hid (P.plI_none (s := s) (rs := rs) HNY.out)
      clear hlt
      go_wp2
      go_ret
      exact ⟨congrArg (fun z => Ending.returned (.int .i64 z)) (hk.out.symm.trans HP.out), rfl⟩

theorem quietX {P : Program} {f : FuncId} {args : Array Value} {w : World} {n : Nat} {v : Value}
    (h : Calls P f args (w.drewN n) fun e w' => e = .returned v ∧ w.drewN n = w') : Calls P f args (w.drewN n) fun e w'' => e = .returned v ∧ ∃ m, w'' = w.drewN m :=
  h.mono fun _ _ ⟨he, hm⟩ => ⟨he, n, hm.symm⟩
theorem bel_drewN (w : World) (n : Nat) : Below w.heap.size w (w.drewN n) := by
  have h := Below.refl w.heap.size w
  exact ⟨h.os, h.tape, h.output, h.size, h.block⟩
theorem two_below (w : World) (o o' : Obj) : Below w.heap.size w ((w.alloc o).alloc o') := ((Below.refl _ _).alloc (Nat.le_refl _) _).alloc (by simp) _
theorem at_vals {w : World} {ar av : Option Addr} {cr cv : Nat} {rs : List (List UInt8)} {vs : List Int} {n : Int} (h : EvIn w ar av cr cv rs vs n) {i : Int} (h0 : 0 ≤ i) (h1 : i < rs.length) : ∃ g off, av = some ⟨g, off, none⟩ ∧ w.cell? ⟨g, off + i.toNat, none⟩ = some (.int .i64 (vs.getD i.toNat 0)) := by
  obtain ⟨a', c', he, hc⟩ := h.ivs
  injection he with e1 e2 e3
  subst e1
  have hl := h.len
  rcases hc with hc | ⟨g, off, ha, _, hc⟩
  · rw [hc] at hl
    simp at hl
    omega
  · exact ⟨g, off, ha, hc i.toNat (by omega)⟩
/-- What F makes of two is that of an Op. -/
def Joins (F : Nat) (op n : Int) : Prop := ∀ (x y : Int) (w : World), 0 ≤ x → x < n → 0 ≤ y → y < n → Calls Tryd.prog F #[.int .i64 x, .int .i64 y, .int .i64 n] w (fun e w' => e = .returned (.int .i64 (jn op x y n)) ∧ w = w')
theorem Joins.call {F : Nat} {op n : Int} (h : Joins F op n) {x y : Int} (w : World) (hx : 0 ≤ x ∧ x < n) (hy : 0 ≤ y ∧ y < n) : Calls Tryd.prog F #[.int .i64 x, .int .i64 y, .int .i64 n] w (fun e w' => e = .returned (.int .i64 (jn op x y n)) ∧ w = w') := h x y w hx.1 hx.2 hy.1 hy.2
theorem small_i64 {x n : Int} (hn : n ≤ 4) (h0 : 0 ≤ x) (h1 : x < n) : Wr.I64 x := Wr.I64.mk (by omega) (by omega)
theorem evR_none : evR none = .tuple #[.int .i64 0, .bool false] := rfl
theorem evR_some (x : Int) : evR (some x) = .tuple #[.int .i64 x, .bool true] := rfl
end Go.Proofs.YtchokfgffnomoaaDoor.Lx
/-
  How a list of bytes that came in is opened for the walks of layer 6. It proves nothing of Go by itself.
-/
namespace Go.Proofs.YtchokfgffnomoaaDoor.Lx
open Go.ChangeShapes Go.WideShapes Go.ChangeAt Go.RowKit
theorem own : ownKnob Tryd.prog.godebug = none := by kernel_rfl
theorem laidOut : laidOutB Tryd.prog = true := by kernel_rfl
theorem byte_of {n : Int} (h : (Lit.int .u8 n).wf = true) : ∃ s : Nat, n = (s : Int) ∧ s < 256 := by
  have hb : 0 ≤ n ∧ n ≤ 255 := by
    simpa [Lit.wf, IntKind.min, IntKind.max, IntKind.signed, IntKind.bits] using h
  exact ⟨n.toNat, by omega, by omega⟩
theorem bytes_of_cells {W : World} (x : Addr) (len : Nat) (zs : List Int) (hcell : ∀ i, i < zs.length → W.cell? (x.add i) = some (.int .u8 (zs.getD i 0))) (hwf : ∀ n ∈ zs, (Lit.int .u8 n).wf = true) (hl : len ≤ zs.length) (hm : len ≤ 4611686018427387904) : IsBytes W (some x) len ((zs.take len).map Int.toNat) := by
  have hw : ∀ n ∈ zs, ∃ m : Nat, n = (m : Int) ∧ m < 256 := fun n hn => byte_of (hwf n hn)
  have hlen : ((zs.take len).map Int.toNat).length = len := by simp; omega
  have hget : ∀ i, i < len → ∃ m : Nat, zs.getD i 0 = (m : Int) ∧ m < 256 ∧ ((zs.take len).map Int.toNat).getD i 0 = m := by
    intro i hi
    have hi' : i < zs.length := by omega
    obtain ⟨m, hm, hmB⟩ := hw zs[i] (List.getElem_mem hi')
    refine ⟨m, by simp [List.getD, hi', hm], hmB, ?_⟩
    simp [List.getD, hi, hi', hm]
  refine ⟨hlen, hm, fun i => ?_, ?_⟩
  · by_cases hi : i < len
    · obtain ⟨m, _, h1, h2⟩ := hget i hi
      omega
    · have : ((zs.take len).map Int.toNat).getD i 0 = 0 := by
        rw [List.getD_eq_getElem?_getD, List.getElem?_eq_none (by omega)]
        rfl
      omega
  · by_cases h0 : len = 0
    · exact .inl h0
    · have h := hcell 0 (by omega)
      have hspot : x.spot = none := by simpa [Addr.add] using World.cell?_spot h
      obtain ⟨b, off, spot⟩ := x
      simp only at hspot
      subst hspot
      refine .inr ⟨b, off, rfl, fun i hi => ?_⟩
      have hi' := hcell i (by omega)
      obtain ⟨m, h1, _, h2⟩ := hget i hi
      rw [h2]
      rw [h1] at hi'
      by_cases hi0 : i = 0
      · subst hi0
        simpa [Addr.add] using hi'
      · simpa [Addr.add, hi0] using hi'
end Go.Proofs.YtchokfgffnomoaaDoor.Lx
/-
  How slices of names and of ints, and expressions, that came in are opened for the walks of layers 8 to 11. It proves nothing of Go by itself.
-/
namespace Go.Proofs.YtchokfgffnomoaaDoor.Lx
open Go.RowKit
open P (EX)
set_option maxRecDepth 100000
set_option linter.unusedVariables false
set_option linter.unusedSimpArgs false
section
variable {H : Type} {enc : TypeId × Value → H} {W : World} {base : Nat} {spare : Nat → Bool} {held : Bool}
theorem open_x {v : Value} {d : DataW H} {p : List MemPlace} (hv : Value.okWide Tryd.prog W .any 0 31 v) (h : DataW.Trod enc Tryd.prog W base spare held 31 v d p) : ∃ e, LX (fun _ => True) W v e ∧ wfX e := by
  obtain ⟨cs, rfl, _⟩ := Go.WideShapes.okWide_struct Tryd.underlying31 hv
  obtain ⟨n, hn⟩ := h
  obtain ⟨e, he, hw⟩ := open_lx n _ _ hn
  exact ⟨e, by simpa [Value.cells] using he, hw⟩
theorem open_names {a : Option Addr} {len cap : Nat} {d : DataW H} {p : List MemPlace} (h : DataW.Trod enc Tryd.prog W base spare held 41 (.slice a len cap) d p) : ∃ rs, Nms (fun _ => True) W (.slice a len cap) rs ∧ rs.length ≤ maxLen := by
  obtain ⟨n, hn⟩ := h
  rcases n with _ | n
  · simp [DataW.trod] at hn
  obtain ⟨a', len', cap', he, hlc, hcm, hr⟩ := elems Tryd.underlying41 cellsS (by decide) (show DataW.trod enc Tryd.prog W base spare held (n + 1) 41 [.slice a len cap] = some (d, p) by simpa [Value.cells] using hn)
  injection he with e1 e2 e3
  subst e1 e2 e3
  rcases hr with h0 | ⟨g, off, rfl, hr⟩
  · subst h0
    exact ⟨[], ⟨a, cap, rfl, .inl rfl⟩, Nat.zero_le _⟩
  · obtain ⟨rs, hl, hrs⟩ := pick_list (R := fun i s => W.cell? ⟨g, off + i, none⟩ = some (.string (bs s))) len (fun i hi => by
      obtain ⟨ds, y, hd, hy, hcell⟩ := hr i hi
      obtain ⟨s, rfl, _, _⟩ := DataW.trod_string Tryd.underlying9 hy
      have h1 := hcell 0 (by decide)
      exact ⟨by' s, by rw [bs_by]; simpa using h1⟩)
    subst hl
    refine ⟨rs, ⟨_, cap, rfl, .inr ⟨g, off, rfl, trivial, fun i hi => ?_⟩⟩, by omega⟩
    obtain ⟨s, hs, hc⟩ := hrs i hi
    rw [List.getD_eq_getElem?_getD, hs]
    exact hc
theorem open_nums {a : Option Addr} {len cap : Nat} {d : DataW H} {p : List MemPlace} (h : DataW.Trod enc Tryd.prog W base spare held 44 (.slice a len cap) d p) : ∃ vs, Ivs (fun _ => True) W (.slice a len cap) vs ∧ vs.length ≤ maxLen ∧ ∀ i, W64 (vs.getD i 0) := by
  obtain ⟨n, hn⟩ := h
  rcases n with _ | n
  · simp [DataW.trod] at hn
  obtain ⟨a', len', cap', he, hlc, hcm, hr⟩ := elems Tryd.underlying44 cellsI (by decide) (show DataW.trod enc Tryd.prog W base spare held (n + 1) 44 [.slice a len cap] = some (d, p) by simpa [Value.cells] using hn)
  injection he with e1 e2 e3
  subst e1 e2 e3
  have hz : W64 0 := ⟨by omega, by omega⟩
  rcases hr with h0 | ⟨g, off, rfl, hr⟩
  · subst h0
    exact ⟨[], ⟨a, cap, rfl, .inl rfl⟩, Nat.zero_le _, fun i => by simpa using hz⟩
  · obtain ⟨vs, hl, hrs⟩ := pick_list (R := fun i (z : Int) => W.cell? ⟨g, off + i, none⟩ = some (.int .i64 z) ∧ W64 z) len (fun i hi => by
      obtain ⟨ds, y, hd, hy, hcell⟩ := hr i hi
      obtain ⟨z, rfl, _, hw⟩ := DataW.trod_int Tryd.underlying3 hy
      have h1 := hcell 0 (by decide)
      exact ⟨z, by simpa using h1, w64_of hw⟩)
    subst hl
    refine ⟨vs, ⟨_, cap, rfl, .inr ⟨g, off, rfl, trivial, fun i hi => ?_⟩⟩, by omega, fun i => ?_⟩
    · obtain ⟨s, hs, hc, _⟩ := hrs i hi
      rw [List.getD_eq_getElem?_getD, hs]
      exact hc
    · by_cases hi : i < vs.length
      · obtain ⟨s, hs, hc, hw⟩ := hrs i hi
        rw [List.getD_eq_getElem?_getD, hs]
        exact hw
      · rw [List.getD_eq_getElem?_getD, List.getElem?_eq_none (by omega)]
        exact hz
end
end Go.Proofs.YtchokfgffnomoaaDoor.Lx
/-
  PLAIN MATHEMATICS of what is asked at the end: whether an outcome has a condition, the order of outcomes, their lines. It proves nothing of Go.
-/
namespace Go.Proofs.YtchokfgffnomoaaDoor.P
set_option maxRecDepth 100000
set_option linter.unusedVariables false
set_option linter.unusedSimpArgs false
/-- Does the place with that name have that number? None: it is not there. -/
def hasP (names : List (List UInt8)) (vals : List Int) (s : List UInt8) (n : Int) : Option Bool :=
  if plI s names < 0 ∨ (vals.length : Int) ≤ plI s names then none else some (vals.getD (plI s names).toNat 0 == n)
/-- Not. -/
def notR : Option Bool → Option Bool
  | none => none
  | some x => some (!x)
/-- And, or. -/
def twoR (o : Int) : Option Bool → Option Bool → Option Bool
  | none, _ => none
  | some x, none => none
  | some x, some y => some (if o = 4 then x && y else x || y)
theorem twoR_none (o : Int) (r : Option Bool) : twoR o r none = none := by cases r <;> rfl
/-- Does an outcome have a condition, by so many steps inwards at most? -/
def hd (locs : List (List UInt8)) (regs : List (List (List UInt8))) (rv : List (List Int)) (mv : List Int) : Nat → CO → Option Bool
  | 0, _ => none
  | m + 1, .mk o t s n ks =>
    if o = 1 then (if ks.length = 0 then hasP locs mv s n else none)
    else if o = 2 then (if ks.length = 0 ∧ 0 ≤ t ∧ t < regs.length ∧ t < rv.length then hasP (regs.getD t.toNat []) (rv.getD t.toNat []) s n else none)
    else if o = 3 then
      (match ks with
      | [a] => notR (hd locs regs rv mv m a)
      | _ => none)
    else if o = 4 ∨ o = 5 then
      (match ks with
      | [a, b] => twoR o (hd locs regs rv mv m a) (hd locs regs rv mv m b)
      | _ => none)
    else none
mutual
/-- How far a condition goes inwards. -/
def cdp : CO → Nat
  | .mk _ _ _ _ ks => cdps ks + 1
def cdps : List CO → Nat
  | [] => 0
  | e :: es => max (cdp e) (cdps es)
end
theorem cdps_mem : ∀ {es : List CO} {e : CO}, e ∈ es → cdp e ≤ cdps es
  | [], _, h => by cases h
  | x :: es, e, h => by
    rw [cdps]
    rcases List.mem_cons.1 h with rfl | h
    · omega
    · have := cdps_mem h
      omega
theorem cdps_le {m : Nat} : ∀ {es : List CO}, (∀ e ∈ es, cdp e ≤ m) → cdps es ≤ m
  | [], _ => by
    rw [cdps]
    omega
  | x :: es, h => by
    rw [cdps]
    have h1 := h x (.head _)
    have h2 := cdps_le (es := es) (fun e he => h e (.tail _ he))
    omega
theorem hd_one {locs : List (List UInt8)} {regs : List (List (List UInt8))} {rv : List (List Int)} {mv : List Int} {m : Nat} {o t n : Int} {s : List UInt8} {ks : List CO} (h : o = 1) : hd locs regs rv mv (m + 1) (.mk o t s n ks) = (if ks.length = 0 then hasP locs mv s n else none) := by
  unfold hd
  rw [if_pos h]
theorem hd_two {locs : List (List UInt8)} {regs : List (List (List UInt8))} {rv : List (List Int)} {mv : List Int} {m : Nat} {o t n : Int} {s : List UInt8} {ks : List CO} (h : o = 2) : hd locs regs rv mv (m + 1) (.mk o t s n ks) = (if ks.length = 0 ∧ 0 ≤ t ∧ t < regs.length ∧ t < rv.length then hasP (regs.getD t.toNat []) (rv.getD t.toNat []) s n else none) := by
  unfold hd
  rw [if_neg (by omega), if_pos h]
theorem hd_not {locs : List (List UInt8)} {regs : List (List (List UInt8))} {rv : List (List Int)} {mv : List Int} {m : Nat} {o t n : Int} {s : List UInt8} {a : CO} (h : o = 3) : hd locs regs rv mv (m + 1) (.mk o t s n [a]) = notR (hd locs regs rv mv m a) := by
  conv => lhs; unfold hd
  rw [if_neg (by omega), if_neg (by omega), if_pos h]
theorem hd_nots {locs : List (List UInt8)} {regs : List (List (List UInt8))} {rv : List (List Int)} {mv : List Int} {m : Nat} {o t n : Int} {s : List UInt8} {ks : List CO} (h : o = 3) (hk : ks.length ≠ 1) : hd locs regs rv mv (m + 1) (.mk o t s n ks) = none := by
  conv => lhs; unfold hd
  rw [if_neg (by omega), if_neg (by omega), if_pos h]
  match ks, hk with
  | [], _ => rfl
  | _ :: _ :: _, _ => rfl
theorem hd_two' {locs : List (List UInt8)} {regs : List (List (List UInt8))} {rv : List (List Int)} {mv : List Int} {m : Nat} {o t n : Int} {s : List UInt8} {a b : CO} (h : o = 4 ∨ o = 5) : hd locs regs rv mv (m + 1) (.mk o t s n [a, b]) = twoR o (hd locs regs rv mv m a) (hd locs regs rv mv m b) := by
  conv => lhs; unfold hd
  rw [if_neg (by omega), if_neg (by omega), if_neg (by omega), if_pos h]
theorem hd_twos {locs : List (List UInt8)} {regs : List (List (List UInt8))} {rv : List (List Int)} {mv : List Int} {m : Nat} {o t n : Int} {s : List UInt8} {ks : List CO} (h : o = 4 ∨ o = 5) (hk : ks.length ≠ 2) : hd locs regs rv mv (m + 1) (.mk o t s n ks) = none := by
  conv => lhs; unfold hd
  rw [if_neg (by omega), if_neg (by omega), if_neg (by omega), if_pos h]
  match ks, hk with
  | [], _ => rfl
  | [_], _ => rfl
  | _ :: _ :: _ :: _, _ => rfl
theorem hd_odd {locs : List (List UInt8)} {regs : List (List (List UInt8))} {rv : List (List Int)} {mv : List Int} {m : Nat} {o t n : Int} {s : List UInt8} {ks : List CO} (h1 : o ≠ 1) (h2 : o ≠ 2) (h3 : o ≠ 3) (h4 : o ≠ 4) (h5 : o ≠ 5) : hd locs regs rv mv (m + 1) (.mk o t s n ks) = none := by
  conv => lhs; unfold hd
  rw [if_neg h1, if_neg h2, if_neg h3, if_neg (by omega)]
/-- What is too deep is not asked. -/
theorem hd_deep {locs : List (List UInt8)} {regs : List (List (List UInt8))} {rv : List (List Int)} {mv : List Int} : ∀ (m : Nat) (c : CO), m < cdp c → hd locs regs rv mv m c = none
  | 0, c, _ => rfl
  | m + 1, .mk o t s n ks, h => by
    rw [cdp] at h
    have hk : m < cdps ks := by omega
    have hk0 : ks.length ≠ 0 := by
      intro h0
      rw [List.length_eq_zero_iff.1 h0, cdps] at hk
      omega
    by_cases h1 : o = 1
    · rw [hd_one h1, if_neg hk0]
    by_cases h2 : o = 2
    · rw [hd_two h2, if_neg (fun h => hk0 h.1)]
    by_cases h3 : o = 3
    · by_cases hl : ks.length = 1
      · match ks, hl, hk with
        | [a], _, hk =>
          have ha : m < cdp a := by
            rw [cdps, cdps] at hk
            omega
          rw [hd_not h3, hd_deep m a ha]
          rfl
      · exact hd_nots h3 hl
    by_cases h4 : o = 4 ∨ o = 5
    · by_cases hl : ks.length = 2
      · match ks, hl, hk with
        | [a, b], _, hk =>
          have hab : m < cdp a ∨ m < cdp b := by
            rw [cdps, cdps, cdps] at hk
            omega
          rw [hd_two' h4]
          rcases hab with ha | hb
          · rw [hd_deep m a ha]
            rfl
          · rw [hd_deep m b hb, twoR_none]
      · exact hd_twos h4 hl
    exact hd_odd h1 h2 h3 (by omega) (by omega)
/-- With more steps it stays what it is. -/
theorem hd_more {locs : List (List UInt8)} {regs : List (List (List UInt8))} {rv : List (List Int)} {mv : List Int} : ∀ (m : Nat) (c : CO) (v : Bool), hd locs regs rv mv m c = some v → hd locs regs rv mv (m + 1) c = some v
  | 0, c, v, h => by cases h
  | m + 1, .mk o t s n ks, v, h => by
    by_cases h1 : o = 1
    · rw [hd_one h1] at h ⊢
      exact h
    by_cases h2 : o = 2
    · rw [hd_two h2] at h ⊢
      exact h
    by_cases h3 : o = 3
    · by_cases hl : ks.length = 1
      · match ks, hl with
        | [a], _ =>
          rw [hd_not h3] at h ⊢
          cases ha : hd locs regs rv mv m a with
          | none => rw [ha] at h; cases h
          | some x =>
            rw [ha] at h
            rw [hd_more m a x ha]
            exact h
      · rw [hd_nots h3 hl] at h
        cases h
    by_cases h4 : o = 4 ∨ o = 5
    · by_cases hl : ks.length = 2
      · match ks, hl with
        | [a, b], _ =>
          rw [hd_two' h4] at h ⊢
          cases ha : hd locs regs rv mv m a with
          | none => rw [ha] at h; cases h
          | some x =>
            rw [ha] at h
            rw [hd_more m a x ha]
            cases hb : hd locs regs rv mv m b with
            | none => rw [hb] at h; cases h
            | some y =>
              rw [hb] at h
              rw [hd_more m b y hb]
              exact h
      · rw [hd_twos h4 hl] at h
        cases h
    rw [hd_odd h1 h2 h3 (by omega) (by omega)] at h
    cases h
/-- The order of two lists: -1, 0, 1. -/
def ordI : List Int → List Int → Int
  | [], [] => 0
  | [], _ :: _ => -1
  | _ :: _, [] => 1
  | a :: xs, b :: ys => if a < b then -1 else if b < a then 1 else ordI xs ys
/-- The order of two lists of lists. -/
def ordR : List (List Int) → List (List Int) → Int
  | [], [] => 0
  | [], _ :: _ => -1
  | _ :: _, [] => 1
  | a :: xs, b :: ys => if ordI a b = 0 then ordR xs ys else ordI a b
/-- The order of outcomes. -/
def ordO (r : List (List Int)) (m : List Int) (r' : List (List Int)) (m' : List Int) : Int := if ordR r r' = 0 then ordI m m' else ordR r r'
theorem ordI_in : ∀ (a b : List Int), ordI a b = -1 ∨ ordI a b = 0 ∨ ordI a b = 1
  | [], [] => by simp [ordI]
  | [], _ :: _ => by simp [ordI]
  | _ :: _, [] => by simp [ordI]
  | a :: xs, b :: ys => by
    unfold ordI
    split
    · simp
    · split
      · simp
      · exact ordI_in xs ys
theorem ordR_in : ∀ (a b : List (List Int)), ordR a b = -1 ∨ ordR a b = 0 ∨ ordR a b = 1
  | [], [] => by simp [ordR]
  | [], _ :: _ => by simp [ordR]
  | _ :: _, [] => by simp [ordR]
  | a :: xs, b :: ys => by
    unfold ordR
    split
    · exact ordR_in xs ys
    · exact ordI_in a b
theorem ordO_in (r : List (List Int)) (m : List Int) (r' : List (List Int)) (m' : List Int) : ordO r m r' m' = -1 ∨ ordO r m r' m' = 0 ∨ ordO r m r' m' = 1 := by
  unfold ordO
  split
  · exact ordI_in _ _
  · exact ordR_in _ _
/-- What stands in two lists alike in front plays no part. -/
theorem ordI_drop : ∀ (j : Nat) (a b : List Int), j ≤ a.length → j ≤ b.length → (∀ i, i < j → a.getD i 0 = b.getD i 0) → ordI a b = ordI (a.drop j) (b.drop j)
  | 0, a, b, _, _, _ => by simp
  | j + 1, x :: a, y :: b, ha, hb, h => by
    have h0 : x = y := h 0 (by omega)
    subst h0
    rw [List.drop_succ_cons, List.drop_succ_cons]
    have ih := ordI_drop j a b (by simpa using ha) (by simpa using hb) (fun i hi => h (i + 1) (by omega))
    rw [← ih]
    conv => lhs; unfold ordI
    rw [if_neg (by omega), if_neg (by omega)]
  | j + 1, [], _, ha, _, _ => by simp at ha
  | j + 1, _ :: _, [], _, hb, _ => by simp at hb
theorem ordR_drop : ∀ (j : Nat) (a b : List (List Int)), j ≤ a.length → j ≤ b.length → (∀ i, i < j → ordI (a.getD i []) (b.getD i []) = 0) → ordR a b = ordR (a.drop j) (b.drop j)
  | 0, a, b, _, _, _ => by simp
  | j + 1, x :: a, y :: b, ha, hb, h => by
    have h0 : ordI x y = 0 := h 0 (by omega)
    rw [List.drop_succ_cons, List.drop_succ_cons]
    have ih := ordR_drop j a b (by simpa using ha) (by simpa using hb) (fun i hi => h (i + 1) (by omega))
    rw [← ih]
    conv => lhs; unfold ordR
    rw [if_pos h0]
  | j + 1, [], _, ha, _, _ => by simp at ha
  | j + 1, _ :: _, [], _, hb, _ => by simp at hb
theorem drop_at {α : Type} {l : List α} {j : Nat} (d : α) (h : j < l.length) : l.drop j = l.getD j d :: l.drop (j + 1) := by
  rw [List.drop_eq_getElem_cons h, List.getD_eq_getElem?_getD, List.getElem?_eq_getElem h]
  rfl
/-- The first unlike one decides. -/
theorem ordI_at {j : Nat} {a b : List Int} (ha : j < a.length) (hb : j < b.length) (h : ∀ i, i < j → a.getD i 0 = b.getD i 0) : ordI a b = if a.getD j 0 < b.getD j 0 then -1 else if b.getD j 0 < a.getD j 0 then 1 else ordI (a.drop (j + 1)) (b.drop (j + 1)) := by
  rw [ordI_drop j a b (by omega) (by omega) h, drop_at 0 ha, drop_at 0 hb]
  conv => lhs; unfold ordI
theorem ordI_left {j : Nat} {a b : List Int} (ha : j = a.length) (hb : j < b.length) (h : ∀ i, i < j → a.getD i 0 = b.getD i 0) : ordI a b = -1 := by
  rw [ordI_drop j a b (by omega) (by omega) h, drop_at 0 hb, List.drop_of_length_le (by omega)]
  unfold ordI
  rfl
theorem ordI_right {j : Nat} {a b : List Int} (ha : j < a.length) (hb : j = b.length) (h : ∀ i, i < j → a.getD i 0 = b.getD i 0) : ordI a b = 1 := by
  rw [ordI_drop j a b (by omega) (by omega) h, drop_at 0 ha, List.drop_of_length_le (l := b) (by omega)]
  unfold ordI
  rfl
theorem ordI_same {j : Nat} {a b : List Int} (ha : j = a.length) (hb : j = b.length) (h : ∀ i, i < j → a.getD i 0 = b.getD i 0) : ordI a b = 0 := by
  rw [ordI_drop j a b (by omega) (by omega) h, List.drop_of_length_le (by omega), List.drop_of_length_le (by omega)]
  unfold ordI
  rfl
theorem ordR_at {j : Nat} {a b : List (List Int)} (ha : j < a.length) (hb : j < b.length) (h : ∀ i, i < j → ordI (a.getD i []) (b.getD i []) = 0) : ordR a b = if ordI (a.getD j []) (b.getD j []) = 0 then ordR (a.drop (j + 1)) (b.drop (j + 1)) else ordI (a.getD j []) (b.getD j []) := by
  rw [ordR_drop j a b (by omega) (by omega) h, drop_at [] ha, drop_at [] hb]
  conv => lhs; unfold ordR
theorem ordR_left {j : Nat} {a b : List (List Int)} (ha : j = a.length) (hb : j < b.length) (h : ∀ i, i < j → ordI (a.getD i []) (b.getD i []) = 0) : ordR a b = -1 := by
  rw [ordR_drop j a b (by omega) (by omega) h, drop_at [] hb, List.drop_of_length_le (by omega)]
  unfold ordR
  rfl
theorem ordR_right {j : Nat} {a b : List (List Int)} (ha : j < a.length) (hb : j = b.length) (h : ∀ i, i < j → ordI (a.getD i []) (b.getD i []) = 0) : ordR a b = 1 := by
  rw [ordR_drop j a b (by omega) (by omega) h, drop_at [] ha, List.drop_of_length_le (l := b) (by omega)]
  unfold ordR
  rfl
theorem ordR_same {j : Nat} {a b : List (List Int)} (ha : j = a.length) (hb : j = b.length) (h : ∀ i, i < j → ordI (a.getD i []) (b.getD i []) = 0) : ordR a b = 0 := by
  rw [ordR_drop j a b (by omega) (by omega) h, List.drop_of_length_le (by omega), List.drop_of_length_le (by omega)]
  unfold ordR
  rfl
/-- The pieces of a line that tell of places, all with the same in front. -/
def pcs (front : List UInt8) (names : List (List UInt8)) (vals : List Int) : List (List UInt8) := (names.zip vals).map fun p => front ++ p.1 ++ [61] ++ xN p.2
/-- The pieces that tell of registers, from thread t on. -/
def rpcs : Nat → List (List (List UInt8)) → List (List Int) → List (List UInt8)
  | t, ns :: nss, vs :: vss => pcs (xN t ++ [58]) ns vs ++ rpcs (t + 1) nss vss
  | _, _, _ => []
/-- All pieces of a line. -/
def lpcs (locs : List (List UInt8)) (regs : List (List (List UInt8))) (rv : List (List Int)) (mv : List Int) : List (List UInt8) := rpcs 0 regs rv ++ pcs [] locs mv
/-- Each piece with a blank ahead. -/
def blk : List (List UInt8) → List UInt8
  | [] => []
  | p :: ps => 32 :: p ++ blk ps
theorem blk_app : ∀ (a b : List (List UInt8)), blk (a ++ b) = blk a ++ blk b
  | [], b => rfl
  | p :: ps, b => by
    rw [List.cons_append, blk, blk, blk_app ps b]
    simp
theorem blk_tail : ∀ (l : List (List UInt8)), blk l = Lib.joinTail [32] l
  | [] => rfl
  | p :: ps => by
    rw [blk, blk_tail ps]
    simp [Lib.joinTail]
theorem blk_join : ∀ (l : List (List UInt8)), (blk l).drop 1 = Lib.join l [32]
  | [] => rfl
  | p :: ps => by
    rw [Lib.join_cons, ← blk_tail, blk]
    rfl
end Go.Proofs.YtchokfgffnomoaaDoor.P
/-
  Rows of names, rows of numbers, an outcome with the names of its places, in memory. It proves nothing of Go by itself.
-/
namespace Go.Proofs.YtchokfgffnomoaaDoor.Lx
open Go.RowKit
open P (CO)
set_option maxRecDepth 100000
set_option linter.unusedVariables false
set_option linter.unusedSimpArgs false
/-- At a are rows of names. -/
def NssA (w : World) (a : Option Addr) (rg : List (List (List UInt8))) : Prop := rg = [] ∨ ∃ g off, a = some ⟨g, off, none⟩ ∧ ∀ i, i < rg.length → ∃ u, w.cell? ⟨g, off + i, none⟩ = some u ∧ Nms (fun _ => True) w u (rg.getD i [])
/-- At a are rows of numbers. -/
def VssA (w : World) (a : Option Addr) (rv : List (List Int)) : Prop := rv = [] ∨ ∃ g off, a = some ⟨g, off, none⟩ ∧ ∀ i, i < rv.length → ∃ u, w.cell? ⟨g, off + i, none⟩ = some u ∧ Ivs (fun _ => True) w u (rv.getD i [])
theorem NssA.low {w w' : World} {a : Option Addr} {rg : List (List (List UInt8))} (h : NssA w a rg) (hb : Below w.heap.size w w') : NssA w' a rg := by
  rcases h with h | ⟨g, off, e, h⟩
  · exact .inl h
  · refine .inr ⟨g, off, e, fun i hi => ?_⟩
    obtain ⟨v, hc, hn⟩ := h i hi
    exact ⟨v, (hb.cell (p := ⟨g, off + i, none⟩) (World.block_lt_of_cell? w _ hc)).trans hc, hn.keep (Keeps.below hb (Nat.le_refl _))⟩
theorem VssA.low {w w' : World} {a : Option Addr} {rg : List (List Int)} (h : VssA w a rg) (hb : Below w.heap.size w w') : VssA w' a rg := by
  rcases h with h | ⟨g, off, e, h⟩
  · exact .inl h
  · refine .inr ⟨g, off, e, fun i hi => ?_⟩
    obtain ⟨v, hc, hn⟩ := h i hi
    exact ⟨v, (hb.cell (p := ⟨g, off + i, none⟩) (World.block_lt_of_cell? w _ hc)).trans hc, hn.keep (Keeps.below hb (Nat.le_refl _))⟩
/-- Rows of names are small. -/
def NsOk (rg : List (List (List UInt8))) : Prop := rg.length ≤ maxLen ∧ ∀ i, (rg.getD i []).length ≤ maxLen
/-- Rows of numbers are ints, and small. -/
def VsOk (rv : List (List Int)) : Prop := rv.length ≤ maxLen ∧ ∀ i, (rv.getD i []).length ≤ maxLen ∧ ∀ k, W64 ((rv.getD i []).getD k 0)
/-- An outcome in memory. -/
structure OutIn (w : World) (ra ma : Option Addr) (rv : List (List Int)) (mv : List Int) (mc : Nat) : Prop where
  regs : VssA w ra rv
  mem : Ivs (fun _ => True) w (.slice ma mv.length mc) mv
  rok : VsOk rv
  mok : mv.length ≤ maxLen ∧ ∀ k, W64 (mv.getD k 0)
theorem OutIn.low {w w' : World} {ra ma : Option Addr} {rv : List (List Int)} {mv : List Int} {mc : Nat} (h : OutIn w ra ma rv mv mc) (hb : Below w.heap.size w w') : OutIn w' ra ma rv mv mc :=
  ⟨h.regs.low hb, h.mem.keep (Keeps.below hb (Nat.le_refl _)), h.rok, h.mok⟩
/-- The names of an outcome's places in memory. -/
structure NamIn (w : World) (la ga : Option Addr) (locs : List (List UInt8)) (regs : List (List (List UInt8))) (lc : Nat) : Prop where
  nlocs : Nms (fun _ => True) w (.slice la locs.length lc) locs
  nregs : NssA w ga regs
  lok : locs.length ≤ maxLen
  gok : NsOk regs
theorem NamIn.low {w w' : World} {la ga : Option Addr} {locs : List (List UInt8)} {regs : List (List (List UInt8))} {lc : Nat} (h : NamIn w la ga locs regs lc) (hb : Below w.heap.size w w') : NamIn w' la ga locs regs lc :=
  ⟨h.nlocs.keep (Keeps.below hb (Nat.le_refl _)), h.nregs.low hb, h.lok, h.gok⟩
/-- What Holds answers. -/
def holdR : Option Bool → Value
  | none => .tuple #[.bool false, .bool false]
  | some b => .tuple #[.bool b, .bool true]
def HoTo (o : Option Bool) (w : World) (e : Ending) (w' : World) : Prop := e = .returned (holdR o) ∧ Below w.heap.size w w'
/-- A place in a row of names. -/
theorem nms_at {w : World} {a : Option Addr} {c : Nat} {rs : List (List UInt8)} (h : Nms (fun _ => True) w (.slice a rs.length c) rs) {i : Nat} (hi : i < rs.length) : ∃ g off, a = some ⟨g, off, none⟩ ∧ w.cell? ⟨g, off + i, none⟩ = some (.string (bs (rs.getD i []))) := by
  obtain ⟨a', c', he, h0⟩ := h
  injection he with h1 h2 h3
  subst h1
  rcases h0 with h0 | ⟨g, off, e, _, h0⟩
  · rw [h0] at hi
    simp at hi
  · exact ⟨g, off, e, h0 i hi⟩
theorem ivs_at {w : World} {a : Option Addr} {c : Nat} {vs : List Int} (h : Ivs (fun _ => True) w (.slice a vs.length c) vs) {i : Nat} (hi : i < vs.length) : ∃ g off, a = some ⟨g, off, none⟩ ∧ w.cell? ⟨g, off + i, none⟩ = some (.int .i64 (vs.getD i 0)) := by
  obtain ⟨a', c', he, h0⟩ := h
  injection he with h1 h2 h3
  subst h1
  rcases h0 with h0 | ⟨g, off, e, _, h0⟩
  · rw [h0] at hi
    simp at hi
  · exact ⟨g, off, e, h0 i hi⟩
theorem nss_at {w : World} {a : Option Addr} {rg : List (List (List UInt8))} (h : NssA w a rg) {i : Nat} (hi : i < rg.length) : ∃ g off ra rc, a = some ⟨g, off, none⟩ ∧ w.cell? ⟨g, off + i, none⟩ = some (.slice ra (rg.getD i []).length rc) ∧ Nms (fun _ => True) w (.slice ra (rg.getD i []).length rc) (rg.getD i []) := by
  rcases h with h0 | ⟨g, off, e, h0⟩
  · rw [h0] at hi
    simp at hi
  · obtain ⟨u, hc, hn⟩ := h0 i hi
    have hn0 := hn
    obtain ⟨ra, rc, rfl, _⟩ := hn0
    exact ⟨g, off, ra, rc, e, hc, hn⟩
theorem vss_at {w : World} {a : Option Addr} {rg : List (List Int)} (h : VssA w a rg) {i : Nat} (hi : i < rg.length) : ∃ g off ra rc, a = some ⟨g, off, none⟩ ∧ w.cell? ⟨g, off + i, none⟩ = some (.slice ra (rg.getD i []).length rc) ∧ Ivs (fun _ => True) w (.slice ra (rg.getD i []).length rc) (rg.getD i []) := by
  rcases h with h0 | ⟨g, off, e, h0⟩
  · rw [h0] at hi
    simp at hi
  · obtain ⟨u, hc, hn⟩ := h0 i hi
    have hn0 := hn
    obtain ⟨ra, rc, rfl, _⟩ := hn0
    exact ⟨g, off, ra, rc, e, hc, hn⟩
end Go.Proofs.YtchokfgffnomoaaDoor.Lx
/-
  How conditions, rows of names, rows of numbers and outcomes that came in are opened. It proves nothing of Go by itself.
-/
namespace Go.Proofs.YtchokfgffnomoaaDoor.Lx
open Go.RowKit
open P (CO)
set_option maxRecDepth 100000
set_option linter.unusedVariables false
set_option linter.unusedSimpArgs false
mutual
/-- Its numbers are ints, its names may be. -/
def wfK : CO → Prop
  | .mk o t s n ks => W64 o ∧ W64 t ∧ s.length ≤ maxLen ∧ W64 n ∧ wfKs ks
def wfKs : List CO → Prop
  | [] => True
  | e :: es => wfK e ∧ wfKs es
end
theorem wfKs_mem : ∀ {es : List CO}, wfKs es → ∀ e ∈ es, wfK e
  | [], _, e, he => by cases he
  | x :: es, h, e, he => by
    unfold wfKs at h
    rcases List.mem_cons.1 he with rfl | he
    · exact h.1
    · exact wfKs_mem h.2 e he
theorem wfKs_of : ∀ {es : List CO}, (∀ e ∈ es, wfK e) → wfKs es
  | [], _ => by
    unfold wfKs
    trivial
  | x :: es, h => by
    unfold wfKs
    exact ⟨h x (.head _), wfKs_of (fun e he => h e (.tail _ he))⟩
theorem LCs.of {Q : Nat → Prop} {W : World} {g : Nat} : ∀ (es : List CO) (off : Nat), (∀ i, i < es.length → ∃ e c0 c1 c2 c3 c4, es[i]? = some e ∧ W.cell? ⟨g, off + i * 5, none⟩ = some c0 ∧ W.cell? ⟨g, off + i * 5 + 1, none⟩ = some c1 ∧ W.cell? ⟨g, off + i * 5 + 2, none⟩ = some c2 ∧ W.cell? ⟨g, off + i * 5 + 3, none⟩ = some c3 ∧ W.cell? ⟨g, off + i * 5 + 4, none⟩ = some c4 ∧ LC Q W (.agg #[c0, c1, c2, c3, c4]) e) → LCs Q W g off es
  | [], _, _ => by
    unfold LCs
    trivial
  | e :: es, off, h => by
    unfold LCs
    constructor
    · obtain ⟨e', c0, c1, c2, c3, c4, he, h0, h1, h2, h3, h4, hx⟩ := h 0 (by simp)
      obtain rfl : e = e' := by simpa using he
      rw [Nat.zero_mul, Nat.add_zero] at h0 h1 h2 h3 h4
      exact ⟨c0, c1, c2, c3, c4, h0, h1, h2, h3, h4, hx⟩
    · refine LCs.of es (off + 5) (fun i hi => ?_)
      have h1 := h (i + 1) (by simp; omega)
      rw [show off + (i + 1) * 5 = off + 5 + i * 5 by omega] at h1
      simpa using h1
theorem cellsCs : Tryd.prog.cellsOf 24 = 1 := by kernel_rfl
theorem cellsC : Tryd.prog.cellsOf 26 = 5 := by kernel_rfl
theorem cellsSs : Tryd.prog.cellsOf 41 = 1 := by kernel_rfl
theorem cellsIs : Tryd.prog.cellsOf 44 = 1 := by kernel_rfl
theorem cellsIss : Tryd.prog.cellsOf 43 = 1 := by kernel_rfl
theorem cellsOut : Tryd.prog.cellsOf 46 = 2 := by kernel_rfl
theorem list5 {α : Type} {cs : List α} (h : cs.length = 5) : ∃ c0 c1 c2 c3 c4, cs = [c0, c1, c2, c3, c4] := by
  match cs, h with
  | [c0, c1, c2, c3, c4], _ => exact ⟨c0, c1, c2, c3, c4, rfl⟩
theorem list2 {α : Type} {cs : List α} (h : cs.length = 2) : ∃ c0 c1, cs = [c0, c1] := by
  match cs, h with
  | [c0, c1], _ => exact ⟨c0, c1, rfl⟩
set_option maxHeartbeats 1000000 in
/-- A condition that came in is one. -/
theorem open_lk {H : Type} {enc : TypeId × Value → H} {W : World} {base : Nat} {spare : Nat → Bool} {held : Bool} : ∀ (n : Nat) (cs : List Value) (x : DataW H × List MemPlace), DataW.trod enc Tryd.prog W base spare held n 26 cs = some x → ∃ e, LC (fun _ => True) W (.agg cs.toArray) e ∧ wfK e
  | 0, cs, x, h => by simp [DataW.trod] at h
  | 1, cs, x, h => by
    obtain ⟨y, hy⟩ := fld Tryd.underlying26 h 0 _ rfl
    simp [DataW.trod] at hy
  | n + 2, cs, x, h => by
    obtain ⟨c0, c1, c2, c3, c4, rfl⟩ := list5 ((fld_len Tryd.underlying26 h).trans cellsC)
    obtain ⟨y0, h0⟩ := fldc Tryd.underlying26 h 0 _ rfl (t' := 3) rfl cellsI (cs' := [c0]) rfl
    obtain ⟨y1, h1⟩ := fldc Tryd.underlying26 h 1 _ rfl (t' := 3) rfl cellsI (cs' := [c1]) rfl
    obtain ⟨y2, h2⟩ := fldc Tryd.underlying26 h 2 _ rfl (t' := 9) rfl cellsS (cs' := [c2]) rfl
    obtain ⟨y3, h3⟩ := fldc Tryd.underlying26 h 3 _ rfl (t' := 3) rfl cellsI (cs' := [c3]) rfl
    obtain ⟨y4, h4⟩ := fldc Tryd.underlying26 h 4 _ rfl (t' := 24) rfl cellsCs (cs' := [c4]) rfl
    obtain ⟨o, ho, _, wo⟩ := DataW.trod_int Tryd.underlying3 h0
    obtain ⟨t, ht, _, wt⟩ := DataW.trod_int Tryd.underlying3 h1
    obtain ⟨s, hs, _, ws⟩ := DataW.trod_string Tryd.underlying9 h2
    obtain ⟨m, hm, _, wm⟩ := DataW.trod_int Tryd.underlying3 h3
    obtain ⟨a, len, cap, hc, hlc, hcm, hrow⟩ := elems Tryd.underlying24 cellsC (by decide) h4
    simp at ho ht hm hs
    subst ho ht hm hs hc
    rcases hrow with h0 | ⟨g, off, rfl, hrow⟩
    · subst h0
      exact ⟨.mk o t (by' s) m [], by unfold LC; exact ⟨a, cap, rfl, Nat.zero_le _, .inl rfl⟩, by unfold wfK wfKs; exact ⟨w64_of wo, w64_of wt, ws, w64_of wm, trivial⟩⟩
    · obtain ⟨ks, hkl, hks⟩ := pick_list (R := fun i e => ∃ c0 c1 c2 c3 c4, W.cell? ⟨g, off + i * 5, none⟩ = some c0 ∧ W.cell? ⟨g, off + i * 5 + 1, none⟩ = some c1 ∧ W.cell? ⟨g, off + i * 5 + 2, none⟩ = some c2 ∧ W.cell? ⟨g, off + i * 5 + 3, none⟩ = some c3 ∧ W.cell? ⟨g, off + i * 5 + 4, none⟩ = some c4 ∧ LC (fun _ => True) W (.agg #[c0, c1, c2, c3, c4]) e ∧ wfK e) len (fun i hi => by
        obtain ⟨ds, y, hd, hy, hcell⟩ := hrow i hi
        obtain ⟨d0, d1, d2, d3, d4, rfl⟩ := list5 hd
        obtain ⟨e, he, hw⟩ := open_lk n _ y hy
        exact ⟨e, d0, d1, d2, d3, d4, hcell 0 (by decide), hcell 1 (by decide), hcell 2 (by decide), hcell 3 (by decide), hcell 4 (by decide), he, hw⟩)
      subst hkl
      refine ⟨.mk o t (by' s) m ks, ?_, ?_⟩
      · unfold LC
        refine ⟨some ⟨g, off, none⟩, cap, rfl, by omega, .inr ⟨g, off, rfl, trivial, LCs.of ks off (fun i hi => ?_)⟩⟩
        obtain ⟨e, he, c0, c1, c2, c3, c4, k0, k1, k2, k3, k4, hx, _⟩ := hks i hi
        exact ⟨e, c0, c1, c2, c3, c4, he, k0, k1, k2, k3, k4, hx⟩
      · unfold wfK
        refine ⟨w64_of wo, w64_of wt, ws, w64_of wm, wfKs_of (fun e he => ?_)⟩
        obtain ⟨i, hi⟩ := List.getElem?_of_mem he
        have hil : i < ks.length := by
          rcases Nat.lt_or_ge i ks.length with h | h
          · exact h
          · rw [List.getElem?_eq_none h] at hi
            cases hi
        obtain ⟨e', he', _, _, _, _, _, _, _, _, _, _, _, hw⟩ := hks i hil
        obtain rfl : e = e' := by
          rw [hi] at he'
          exact Option.some.inj he'
        exact hw
section
variable {H : Type} {enc : TypeId × Value → H} {W : World} {base : Nat} {spare : Nat → Bool} {held : Bool}
theorem open_c {v : Value} {d : DataW H} {p : List MemPlace} (hv : Value.okWide Tryd.prog W .any 0 26 v) (h : DataW.Trod enc Tryd.prog W base spare held 26 v d p) : ∃ e, LC (fun _ => True) W v e ∧ wfK e := by
  obtain ⟨cs, rfl, _⟩ := Go.WideShapes.okWide_struct Tryd.underlying26 hv
  obtain ⟨n, hn⟩ := h
  obtain ⟨e, he, hw⟩ := open_lk n _ _ hn
  exact ⟨e, by simpa [Value.cells] using he, hw⟩
/-- Rows of names that came in. -/
theorem open_nss {a : Option Addr} {len cap : Nat} {d : DataW H} {p : List MemPlace} (h : DataW.Trod enc Tryd.prog W base spare held 42 (.slice a len cap) d p) : ∃ rg : List (List (List UInt8)), rg.length = len ∧ NssA W a rg ∧ NsOk rg := by
  obtain ⟨n, hn⟩ := h
  rcases n with _ | n
  · simp [DataW.trod] at hn
  obtain ⟨a', len', cap', he, hlc, hcm, hr⟩ := elems Tryd.underlying42 cellsSs (by decide) (show DataW.trod enc Tryd.prog W base spare held (n + 1) 42 [.slice a len cap] = some (d, p) by simpa [Value.cells] using hn)
  injection he with e1 e2 e3
  subst e1 e2 e3
  rcases hr with h0 | ⟨g, off, rfl, hr⟩
  · subst h0
    exact ⟨[], rfl, .inl rfl, Nat.zero_le _, fun i => by simp⟩
  · obtain ⟨rs, hl, hrs⟩ := pick_list (R := fun i (s : List (List UInt8)) => ∃ u, W.cell? ⟨g, off + i, none⟩ = some u ∧ Nms (fun _ => True) W u s ∧ s.length ≤ maxLen) len (fun i hi => by
      obtain ⟨ds, y, hd, hy, hcell⟩ := hr i hi
      match ds, hd with
      | [u], _ =>
        rcases n with _ | n
        · simp [DataW.trod] at hy
        obtain ⟨ra, rl, rc, he, _, _, _⟩ := elems Tryd.underlying41 cellsS (by decide) hy
        obtain rfl : u = .slice ra rl rc := by simpa using he
        obtain ⟨d2, p2⟩ := y
        obtain ⟨s, hs, hsl⟩ := open_names (a := ra) (len := rl) (cap := rc) (d := d2) (p := p2) ⟨n + 1, by simpa [Value.cells] using hy⟩
        have h1 := hcell 0 (by decide)
        exact ⟨s, _, by simpa using h1, hs, hsl⟩)
    subst hl
    refine ⟨rs, rfl, .inr ⟨g, off, rfl, fun i hi => ?_⟩, by omega, fun i => ?_⟩
    · obtain ⟨s, hs, u, hc, hn, _⟩ := hrs i hi
      rw [List.getD_eq_getElem?_getD, hs]
      exact ⟨u, hc, hn⟩
    · by_cases hi : i < rs.length
      · obtain ⟨s, hs, u, hc, hn, hl⟩ := hrs i hi
        rw [List.getD_eq_getElem?_getD, hs]
        exact hl
      · rw [List.getD_eq_getElem?_getD, List.getElem?_eq_none (by omega)]
        exact Nat.zero_le _
/-- Rows of numbers that came in. -/
theorem open_vss {m : Nat} {a : Value} {x : DataW H × List MemPlace} (hn : DataW.trod enc Tryd.prog W base spare held m 43 [a] = some x) : ∃ (ra : Option Addr) (rc : Nat) (rv : List (List Int)), a = .slice ra rv.length rc ∧ VssA W ra rv ∧ VsOk rv := by
  have hz : W64 0 := ⟨by omega, by omega⟩
  rcases m with _ | n
  · simp [DataW.trod] at hn
  obtain ⟨a', len, cap', he, hlc, hcm, hr⟩ := elems Tryd.underlying43 cellsIs (by decide) hn
  obtain rfl : a = .slice a' len cap' := by simpa using he
  rcases hr with h0 | ⟨g, off, rfl, hr⟩
  · subst h0
    exact ⟨a', cap', [], rfl, .inl rfl, Nat.zero_le _, fun i => ⟨by simp, fun k => by simpa using hz⟩⟩
  · obtain ⟨rs, hl, hrs⟩ := pick_list (R := fun i (s : List Int) => ∃ u, W.cell? ⟨g, off + i, none⟩ = some u ∧ Ivs (fun _ => True) W u s ∧ s.length ≤ maxLen ∧ ∀ k, W64 (s.getD k 0)) len (fun i hi => by
      obtain ⟨ds, y, hd, hy, hcell⟩ := hr i hi
      match ds, hd with
      | [u], _ =>
        rcases n with _ | n
        · simp [DataW.trod] at hy
        obtain ⟨ra, rl, rc, he, _, _, _⟩ := elems Tryd.underlying44 cellsI (by decide) hy
        obtain rfl : u = .slice ra rl rc := by simpa using he
        obtain ⟨d2, p2⟩ := y
        obtain ⟨s, hs, hsl, h64⟩ := open_nums (a := ra) (len := rl) (cap := rc) (d := d2) (p := p2) ⟨n + 1, by simpa [Value.cells] using hy⟩
        have h1 := hcell 0 (by decide)
        exact ⟨s, _, by simpa using h1, hs, hsl, h64⟩)
    subst hl
    refine ⟨_, cap', rs, rfl, .inr ⟨g, off, rfl, fun i hi => ?_⟩, by omega, fun i => ?_⟩
    · obtain ⟨s, hs, u, hc, hn, _⟩ := hrs i hi
      rw [List.getD_eq_getElem?_getD, hs]
      exact ⟨u, hc, hn⟩
    · by_cases hi : i < rs.length
      · obtain ⟨s, hs, u, hc, hn, hl, h64⟩ := hrs i hi
        rw [List.getD_eq_getElem?_getD, hs]
        exact ⟨hl, h64⟩
      · rw [List.getD_eq_getElem?_getD, List.getElem?_eq_none (by omega)]
        exact ⟨Nat.zero_le _, fun k => by simpa using hz⟩
/-- An outcome that came in. -/
theorem open_out {v : Value} {d : DataW H} {p : List MemPlace} (hv : Value.okWide Tryd.prog W .any 0 46 v) (h : DataW.Trod enc Tryd.prog W base spare held 46 v d p) : ∃ (ra ma : Option Addr) (rv : List (List Int)) (mv : List Int) (rc mc : Nat), v = .agg #[.slice ra rv.length rc, .slice ma mv.length mc] ∧ OutIn W ra ma rv mv mc := by
  obtain ⟨cs, rfl, _⟩ := Go.WideShapes.okWide_struct Tryd.underlying46 hv
  obtain ⟨n, hn⟩ := h
  have hcs : (Value.agg cs).cells.toList = cs.toList := by simp [Value.cells]
  rw [hcs] at hn
  rcases n with _ | n
  · simp [DataW.trod] at hn
  obtain ⟨c0, c1, hc⟩ := list2 ((fld_len Tryd.underlying46 hn).trans cellsOut)
  obtain rfl : cs = #[c0, c1] := by cases cs; simp_all
  obtain ⟨y0, h0⟩ := fldc Tryd.underlying46 hn 0 _ rfl (t' := 43) rfl cellsIss (cs' := [c0]) rfl
  obtain ⟨y1, h1⟩ := fldc Tryd.underlying46 hn 1 _ rfl (t' := 44) rfl cellsIs (cs' := [c1]) rfl
  obtain ⟨ra, rc, rv, rfl, hrv, hro⟩ := open_vss h0
  rcases n with _ | n
  · simp [DataW.trod] at h1
  obtain ⟨ma, ml, mc, he, _, _, _⟩ := elems Tryd.underlying44 cellsI (by decide) h1
  obtain rfl : c1 = .slice ma ml mc := by simpa using he
  obtain ⟨d2, p2⟩ := y1
  obtain ⟨mv, hmv, hml, h64⟩ := open_nums (a := ma) (len := ml) (cap := mc) (d := d2) (p := p2) ⟨n + 1, by simpa [Value.cells] using h1⟩
  have hmv0 := hmv
  obtain ⟨a', c', he, _⟩ := hmv0
  injection he with e1 e2 e3
  subst e2
  exact ⟨ra, ma, rv, mv, rc, mc, rfl, hrv, hmv, hro, hml, h64⟩
end
end Go.Proofs.YtchokfgffnomoaaDoor.Lx
/-
  What Cond of the document's answer tells of any condition, as a contract.
-/
namespace Go.Proofs.YtchokfgffnomoaaDoor.Lx
open Go.RowKit
open P (CO)
set_option maxRecDepth 100000
set_option linter.unusedVariables false
set_option linter.unusedSimpArgs false
/-- A slice of conditions. -/
def IsKs (Q : Nat → Prop) (w : World) (v : Value) (es : List CO) : Prop := ∃ a c, v = .slice a es.length c ∧ es.length ≤ maxLen ∧ (es = [] ∨ ∃ g off, a = some ⟨g, off, none⟩ ∧ Q g ∧ LCs Q w g off es)
/-- The text of the one at i, of nothing if it is not there. -/
def sidK (es : List CO) (i : Nat) : List UInt8 := (es.map P.xC).getD i []
theorem xCs_mapK : ∀ es : List CO, P.xCs es = es.map P.xC
  | [] => rfl
  | e :: es => by simp [P.xCs, xCs_mapK es]
theorem isKs_low {Q : Nat → Prop} {w w' : World} {v : Value} {es : List CO} (h : IsKs Q w v es) (hb : Below w.heap.size w w') : IsKs Q w' v es := by
  obtain ⟨a, c, rfl, hm, h | ⟨g, off, ha, hg, hs⟩⟩ := h
  · exact ⟨a, c, rfl, hm, .inl h⟩
  · exact ⟨a, c, rfl, hm, .inr ⟨g, off, ha, hg, LCs.keep (Keeps.below hb (Nat.le_refl _)) es hg hs⟩⟩
theorem side_in (F : ByteArray) (i : Nat) (z : Int) (hz : z = (i : Int)) (es : List CO) (e : CO) (g off cap : Nat) (Q : Nat → Prop) (w : World) (hl : LCs Q w g off es) (he : es[i]? = some e) (hm : es.length ≤ maxLen) (hi : i < es.length)
    (hEx : ∀ v w', LC Q w' v e → Calls Tryd.prog 17 #[v] w' (TextTo F w')) :
    Calls Tryd.prog 40 #[.slice (some ⟨g, off, none⟩) es.length cap, .int .i64 z] w (TextTo F w) := by
  subst hz
  unfold maxLen at hm
  obtain ⟨x, a0, a1, a2, a3, a4, hx, h0, h1, h2, h3, h4, hlx⟩ := LCs.at es hl i hi
  obtain rfl : x = e := by rw [he] at hx; exact (Option.some.inj hx).symm
  have HE := Lib.hid (hEx _ w hlx)
  clear hl he hx hlx hEx
  have m1 : (0 : Int) ≤ (i : Int) := by omega
  have m2 : (i : Int) < (es.length : Int) := by omega
  have d1 : decide ((es.length : Int) ≤ (i : Int)) = false := by simp; omega
  have d2 : decide (es.length ≤ i) = false := by simp; omega
  go_enter Tryd.func40, Tryd.ntmps40
  go_wp2_with fail
  with_reducible refine HE.out.mono ?_
  rintro e w1 ⟨rfl, hb1⟩
  go_wp2_with fail
  go_ret
  exact ⟨rfl, hb1⟩
theorem side_out (i n cap : Nat) (a : Option Addr) (z : Int) (hz : z = (i : Int)) (w : World) (hm : n ≤ maxLen) (hi : n ≤ i) :
    Calls Tryd.prog 40 #[.slice a n cap, .int .i64 z] w (TextTo (bs []) w) := by
  subst hz
  unfold maxLen at hm
  have d1 : decide ((n : Int) ≤ (i : Int)) = true := by simp; omega
  have d2 : decide (n ≤ i) = true := by simp; omega
  show Calls Tryd.prog 40 #[.slice a n cap, .int .i64 (i : Nat)] w (TextTo ⟨#[]⟩ w)
  go_enter Tryd.func40, Tryd.ntmps40
  go_wp2_with fail
  go_ret
  exact ⟨rfl, Below.refl _ _⟩
theorem side_text (es : List CO) (i : Nat) (z : Int) (hz : z = (i : Int)) (Q : Nat → Prop) (v : Value) (w : World) (hv : IsKs Q w v es) (hE : ∀ e ∈ es, ∀ v w', LC Q w' v e → Calls Tryd.prog 17 #[v] w' (TextTo (bs (P.xC e)) w')) :
    Calls Tryd.prog 40 #[v, .int .i64 z] w (TextTo (bs (sidK es i)) w) := by
  obtain ⟨a, c, rfl, hm, hc⟩ := hv
  by_cases hi : i < es.length
  · rcases hc with rfl | ⟨g, off, rfl, hg, hs⟩
    · simp at hi
    · have he : es[i]? = some es[i] := List.getElem?_eq_getElem hi
      have := side_in (bs (P.xC es[i])) i z hz es es[i] g off c Q w hs he hm hi (hE _ (List.getElem_mem hi))
      rwa [show sidK es i = P.xC es[i] by simp [sidK, List.getD_eq_getElem?_getD, he]]
  · have := side_out i es.length c a z hz w hm (by omega)
    rwa [show sidK es i = [] by simp [sidK, List.getD_eq_getElem?_getD, List.getElem?_eq_none (show es.length ≤ i by omega)]]
set_option maxHeartbeats 3200000 in
theorem rc_and (t n : Int) (s : List UInt8) (ks : List CO) (a : Option Addr) (cap : Nat) (Q : Nat → Prop) (w : World) (hv : IsKs Q w (.slice a ks.length cap) ks) (hl : (sidK ks 0).length + (sidK ks 1).length ≤ 1000000000000)
    (hk : ∀ e ∈ ks, ∀ v w', LC Q w' v e → Calls Tryd.prog 17 #[v] w' (TextTo (bs (P.xC e)) w')) :
    Calls Tryd.prog 17 #[.agg #[.int .i64 4, .int .i64 t, .string (bs s), .int .i64 n, .slice a ks.length cap]] w (TextTo ((((⟨#[40]⟩ ++ bs (sidK ks 0)) ++ ⟨#[32, 97, 110, 100, 32]⟩) ++ bs (sidK ks 1)) ++ ⟨#[41]⟩) w) := by
  have hm : ks.length ≤ maxLen := by obtain ⟨_, _, he, hm, _⟩ := hv; exact hm
  unfold maxLen at hm
  have hbl : Below w.heap.size w (w.alloc (.cells #[.int .i64 4, .int .i64 t, .string (bs s), .int .i64 n, .slice a ks.length cap] 26)) := (Below.refl _ _).alloc (Nat.le_refl _) _
  have HE := Lib.hid (Blk.new w 26 #[.int .i64 4, .int .i64 t, .string (bs s), .int .i64 n, .slice a ks.length cap])
  have HA := Lib.hid (fun w' (hw : Below (w.alloc (.cells #[.int .i64 4, .int .i64 t, .string (bs s), .int .i64 n, .slice a ks.length cap] 26)).heap.size (w.alloc (.cells #[.int .i64 4, .int .i64 t, .string (bs s), .int .i64 n, .slice a ks.length cap] 26)) w') => (side_text ks 0 0 rfl Q _ w' (isKs_low (isKs_low hv hbl) hw) hk).mono fun e w'' (hx : TextTo (bs (sidK ks 0)) w' e w'') => (show KidTo (bs (sidK ks 0)) (w.alloc (.cells #[.int .i64 4, .int .i64 t, .string (bs s), .int .i64 n, .slice a ks.length cap] 26)) e w'' from ⟨hx.1, hw.trans (hx.2.mono hw.size)⟩))
  have HB := Lib.hid (fun w' (hw : Below (w.alloc (.cells #[.int .i64 4, .int .i64 t, .string (bs s), .int .i64 n, .slice a ks.length cap] 26)).heap.size (w.alloc (.cells #[.int .i64 4, .int .i64 t, .string (bs s), .int .i64 n, .slice a ks.length cap] 26)) w') => (side_text ks 1 1 rfl Q _ w' (isKs_low (isKs_low hv hbl) hw) hk).mono fun e w'' (hx : TextTo (bs (sidK ks 1)) w' e w'') => (show KidTo (bs (sidK ks 1)) (w.alloc (.cells #[.int .i64 4, .int .i64 t, .string (bs s), .int .i64 n, .slice a ks.length cap] 26)) e w'' from ⟨hx.1, hw.trans (hx.2.mono hw.size)⟩))
  have HBL := Lib.hid hbl
  have sA : (bs (sidK ks 0)).size ≤ 1000000000000 := by rw [bs_size]; omega
  have sB : (bs (sidK ks 1)).size ≤ 1000000000000 := by rw [bs_size]; omega
  clear hv hk hbl hl
  generalize bs (sidK ks 0) = A at *
  generalize bs (sidK ks 1) = B at *
  generalize bs s = S at *
  go_enter Tryd.func17, Tryd.ntmps17
  go_wp2_with fail
  generalize (w.alloc (.cells #[.int .i64 4, .int .i64 t, .string S, .int .i64 n, .slice a ks.length cap] 26)) = wb at *
  have z1 : ¬ 9223372036854775807 < 1 + A.size := by omega
  have z2 : ¬ 9223372036854775807 < 1 + A.size + 5 := by omega
  have z3 : ¬ 9223372036854775807 < 1 + A.size + 5 + B.size := by omega
  have z4 : ¬ 9223372036854775807 < 1 + A.size + 5 + B.size + 1 := by omega
  have lE := HE.out.lt
  have hb0 : Below wb.heap.size wb wb := Below.refl _ _
  have hbD : Below wb.heap.size wb wb.drew := (Below.refl _ _).drew
  have HK7 := Lib.hid (fun w' (h7 : Below wb.heap.size wb w') => (show w'.cell? ⟨w.heap.size, 4, none⟩ = some (.slice a ks.length cap) from (HE.out.live' h7).cell 4))
  have HK0 := Lib.hid (HK7.out wb hb0)
  have HKD := Lib.hid (HK7.out wb.drew hbD)
  go_region_held3 (fun w' => w'.cell? ⟨w.heap.size, 4, none⟩ = some (.slice a ks.length cap))
    (first
      | with_reducible exact HK0.out
      | with_reducible exact HKD.out
      | with_reducible assumption
      | go_keep)
    (first
      | (go_at_call 40; (with_reducible refine (HA.out _ (by assumption)).mono ?_); rintro e w7 ⟨rfl, hw7⟩; have hSw7 := HK7.out w7 hw7)
      | (go_at_call 40; (with_reducible refine (HB.out _ (by assumption)).mono ?_); rintro e w8 ⟨rfl, hw8⟩; have hSw8 := HK7.out w8 hw8))
  all_goals
    go_wp2_with fail
    go_ret
    first
      | exact ⟨rfl, HBL.out.trans (hw8.mono HBL.out.size)⟩
      | exact ⟨rfl, HBL.out.trans (hw7.mono HBL.out.size)⟩
set_option maxHeartbeats 3200000 in
theorem rc_or (t n : Int) (s : List UInt8) (ks : List CO) (a : Option Addr) (cap : Nat) (Q : Nat → Prop) (w : World) (hv : IsKs Q w (.slice a ks.length cap) ks) (hl : (sidK ks 0).length + (sidK ks 1).length ≤ 1000000000000)
    (hk : ∀ e ∈ ks, ∀ v w', LC Q w' v e → Calls Tryd.prog 17 #[v] w' (TextTo (bs (P.xC e)) w')) :
    Calls Tryd.prog 17 #[.agg #[.int .i64 5, .int .i64 t, .string (bs s), .int .i64 n, .slice a ks.length cap]] w (TextTo ((((⟨#[40]⟩ ++ bs (sidK ks 0)) ++ ⟨#[32, 111, 114, 32]⟩) ++ bs (sidK ks 1)) ++ ⟨#[41]⟩) w) := by
  have hm : ks.length ≤ maxLen := by obtain ⟨_, _, he, hm, _⟩ := hv; exact hm
  unfold maxLen at hm
  have hbl : Below w.heap.size w (w.alloc (.cells #[.int .i64 5, .int .i64 t, .string (bs s), .int .i64 n, .slice a ks.length cap] 26)) := (Below.refl _ _).alloc (Nat.le_refl _) _
  have HE := Lib.hid (Blk.new w 26 #[.int .i64 5, .int .i64 t, .string (bs s), .int .i64 n, .slice a ks.length cap])
  have HA := Lib.hid (fun w' (hw : Below (w.alloc (.cells #[.int .i64 5, .int .i64 t, .string (bs s), .int .i64 n, .slice a ks.length cap] 26)).heap.size (w.alloc (.cells #[.int .i64 5, .int .i64 t, .string (bs s), .int .i64 n, .slice a ks.length cap] 26)) w') => (side_text ks 0 0 rfl Q _ w' (isKs_low (isKs_low hv hbl) hw) hk).mono fun e w'' (hx : TextTo (bs (sidK ks 0)) w' e w'') => (show KidTo (bs (sidK ks 0)) (w.alloc (.cells #[.int .i64 5, .int .i64 t, .string (bs s), .int .i64 n, .slice a ks.length cap] 26)) e w'' from ⟨hx.1, hw.trans (hx.2.mono hw.size)⟩))
  have HB := Lib.hid (fun w' (hw : Below (w.alloc (.cells #[.int .i64 5, .int .i64 t, .string (bs s), .int .i64 n, .slice a ks.length cap] 26)).heap.size (w.alloc (.cells #[.int .i64 5, .int .i64 t, .string (bs s), .int .i64 n, .slice a ks.length cap] 26)) w') => (side_text ks 1 1 rfl Q _ w' (isKs_low (isKs_low hv hbl) hw) hk).mono fun e w'' (hx : TextTo (bs (sidK ks 1)) w' e w'') => (show KidTo (bs (sidK ks 1)) (w.alloc (.cells #[.int .i64 5, .int .i64 t, .string (bs s), .int .i64 n, .slice a ks.length cap] 26)) e w'' from ⟨hx.1, hw.trans (hx.2.mono hw.size)⟩))
  have HBL := Lib.hid hbl
  have sA : (bs (sidK ks 0)).size ≤ 1000000000000 := by rw [bs_size]; omega
  have sB : (bs (sidK ks 1)).size ≤ 1000000000000 := by rw [bs_size]; omega
  clear hv hk hbl hl
  generalize bs (sidK ks 0) = A at *
  generalize bs (sidK ks 1) = B at *
  generalize bs s = S at *
  go_enter Tryd.func17, Tryd.ntmps17
  go_wp2_with fail
  generalize (w.alloc (.cells #[.int .i64 5, .int .i64 t, .string S, .int .i64 n, .slice a ks.length cap] 26)) = wb at *
  have z1 : ¬ 9223372036854775807 < 1 + A.size := by omega
  have z2 : ¬ 9223372036854775807 < 1 + A.size + 4 := by omega
  have z3 : ¬ 9223372036854775807 < 1 + A.size + 4 + B.size := by omega
  have z4 : ¬ 9223372036854775807 < 1 + A.size + 4 + B.size + 1 := by omega
  have lE := HE.out.lt
  have hb0 : Below wb.heap.size wb wb := Below.refl _ _
  have hbD : Below wb.heap.size wb wb.drew := (Below.refl _ _).drew
  have HK7 := Lib.hid (fun w' (h7 : Below wb.heap.size wb w') => (show w'.cell? ⟨w.heap.size, 4, none⟩ = some (.slice a ks.length cap) from (HE.out.live' h7).cell 4))
  have HK0 := Lib.hid (HK7.out wb hb0)
  have HKD := Lib.hid (HK7.out wb.drew hbD)
  go_region_held3 (fun w' => w'.cell? ⟨w.heap.size, 4, none⟩ = some (.slice a ks.length cap))
    (first
      | with_reducible exact HK0.out
      | with_reducible exact HKD.out
      | with_reducible assumption
      | go_keep)
    (first
      | (go_at_call 40; (with_reducible refine (HA.out _ (by assumption)).mono ?_); rintro e w7 ⟨rfl, hw7⟩; have hSw7 := HK7.out w7 hw7)
      | (go_at_call 40; (with_reducible refine (HB.out _ (by assumption)).mono ?_); rintro e w8 ⟨rfl, hw8⟩; have hSw8 := HK7.out w8 hw8))
  all_goals
    go_wp2_with fail
    go_ret
    first
      | exact ⟨rfl, HBL.out.trans (hw8.mono HBL.out.size)⟩
      | exact ⟨rfl, HBL.out.trans (hw7.mono HBL.out.size)⟩
set_option maxHeartbeats 3200000 in
theorem rc_not (t n : Int) (s : List UInt8) (ks : List CO) (a : Option Addr) (cap : Nat) (Q : Nat → Prop) (w : World) (hv : IsKs Q w (.slice a ks.length cap) ks) (hl : (sidK ks 0).length ≤ 1000000000000)
    (hk : ∀ e ∈ ks, ∀ v w', LC Q w' v e → Calls Tryd.prog 17 #[v] w' (TextTo (bs (P.xC e)) w')) :
    Calls Tryd.prog 17 #[.agg #[.int .i64 3, .int .i64 t, .string (bs s), .int .i64 n, .slice a ks.length cap]] w (TextTo (⟨#[110, 111, 116, 32]⟩ ++ bs (sidK ks 0)) w) := by
  have hm : ks.length ≤ maxLen := by obtain ⟨_, _, he, hm, _⟩ := hv; exact hm
  unfold maxLen at hm
  have hbl : Below w.heap.size w (w.alloc (.cells #[.int .i64 3, .int .i64 t, .string (bs s), .int .i64 n, .slice a ks.length cap] 26)) := (Below.refl _ _).alloc (Nat.le_refl _) _
  have HE := Lib.hid (Blk.new w 26 #[.int .i64 3, .int .i64 t, .string (bs s), .int .i64 n, .slice a ks.length cap])
  have HA := Lib.hid (fun w' (hw : Below (w.alloc (.cells #[.int .i64 3, .int .i64 t, .string (bs s), .int .i64 n, .slice a ks.length cap] 26)).heap.size (w.alloc (.cells #[.int .i64 3, .int .i64 t, .string (bs s), .int .i64 n, .slice a ks.length cap] 26)) w') => (side_text ks 0 0 rfl Q _ w' (isKs_low (isKs_low hv hbl) hw) hk).mono fun e w'' (hx : TextTo (bs (sidK ks 0)) w' e w'') => (show KidTo (bs (sidK ks 0)) (w.alloc (.cells #[.int .i64 3, .int .i64 t, .string (bs s), .int .i64 n, .slice a ks.length cap] 26)) e w'' from ⟨hx.1, hw.trans (hx.2.mono hw.size)⟩))
  have HBL := Lib.hid hbl
  have sA : (bs (sidK ks 0)).size ≤ 1000000000000 := by rw [bs_size]; omega
  clear hv hk hbl hl
  generalize bs (sidK ks 0) = A at *
  generalize bs s = S at *
  go_enter Tryd.func17, Tryd.ntmps17
  go_wp2_with fail
  generalize (w.alloc (.cells #[.int .i64 3, .int .i64 t, .string S, .int .i64 n, .slice a ks.length cap] 26)) = wb at *
  have z1 : ¬ 9223372036854775807 < 4 + A.size := by omega
  with_reducible refine (HA.out _ (Below.refl _ _)).mono ?_
  rintro e w7 ⟨rfl, hw7⟩
  go_wp2_with fail
  go_ret
  exact ⟨rfl, HBL.out.trans (hw7.mono HBL.out.size)⟩
set_option maxHeartbeats 3200000 in
theorem rc_mem (t n : Int) (ht : W64 t) (hn : W64 n) (s : List UInt8) (ks : List CO) (a : Option Addr) (cap : Nat) (w : World) (hl : s.length + (P.xN t).length + (P.xN n).length ≤ 2000000000000) :
    Calls Tryd.prog 17 #[.agg #[.int .i64 1, .int .i64 t, .string (bs s), .int .i64 n, .slice a ks.length cap]] w (TextTo ((bs s ++ ⟨#[32, 61, 61, 32]⟩) ++ bs (P.xN n)) w) := by
  have hbl : Below w.heap.size w (w.alloc (.cells #[.int .i64 1, .int .i64 t, .string (bs s), .int .i64 n, .slice a ks.length cap] 26)) := (Below.refl _ _).alloc (Nat.le_refl _) _
  have HE := Lib.hid (Blk.new w 26 #[.int .i64 1, .int .i64 t, .string (bs s), .int .i64 n, .slice a ks.length cap])
  have HD := Lib.hid (fun w' (hw : Below (w.alloc (.cells #[.int .i64 1, .int .i64 t, .string (bs s), .int .i64 n, .slice a ks.length cap] 26)).heap.size (w.alloc (.cells #[.int .i64 1, .int .i64 t, .string (bs s), .int .i64 n, .slice a ks.length cap] 26)) w') => (rdig_any n hn w').mono fun e w'' (hx : TextTo (bs (P.xN n)) w' e w'') => (show KidTo (bs (P.xN n)) (w.alloc (.cells #[.int .i64 1, .int .i64 t, .string (bs s), .int .i64 n, .slice a ks.length cap] 26)) e w'' from ⟨hx.1, hw.trans (hx.2.mono hw.size)⟩))
  have HBL := Lib.hid hbl
  have sS : (bs s).size ≤ 2000000000000 := by rw [bs_size]; omega
  have sD : (bs (P.xN n)).size ≤ 2000000000000 := by rw [bs_size]; omega
  clear hbl hl ht hn
  generalize bs (P.xN n) = D at *
  generalize bs s = S at *
  go_enter Tryd.func17, Tryd.ntmps17
  go_wp2_with fail
  generalize (w.alloc (.cells #[.int .i64 1, .int .i64 t, .string S, .int .i64 n, .slice a ks.length cap] 26)) = wb at *
  have z0 : ¬ 9223372036854775807 < S.size + 4 := by omega
  have z1 : ¬ 9223372036854775807 < S.size + 4 + D.size := by omega
  have lE := HE.out.lt
  have hb0 : Below wb.heap.size wb wb := Below.refl _ _
  have hbD : Below wb.heap.size wb wb.drew := (Below.refl _ _).drew
  have HK7 := Lib.hid (fun w' (h7 : Below wb.heap.size wb w') => (show w'.cell? ⟨w.heap.size, 2, none⟩ = some (.string S) ∧ w'.cell? ⟨w.heap.size, 3, none⟩ = some (.int .i64 n) from ⟨(HE.out.live' h7).cell 2, (HE.out.live' h7).cell 3⟩))
  have HK0 := Lib.hid (HK7.out wb hb0)
  have HKD := Lib.hid (HK7.out wb.drew hbD)
  go_region_held3 (fun w' => w'.cell? ⟨w.heap.size, 2, none⟩ = some (.string S) ∧ w'.cell? ⟨w.heap.size, 3, none⟩ = some (.int .i64 n))
    (first
      | with_reducible exact HK0.out
      | with_reducible exact HKD.out
      | with_reducible assumption
      | go_keep)
    (first
      | (go_at_call 35; (with_reducible refine (HD.out _ (by assumption)).mono ?_); rintro e w8 ⟨rfl, hw8⟩; have hSw8 := HK7.out w8 hw8))
  all_goals
    go_wp2_with fail
    go_ret
    first
      | exact ⟨rfl, HBL.out.trans (hw8.mono HBL.out.size)⟩
set_option maxHeartbeats 3200000 in
theorem rc_reg (t n : Int) (ht : W64 t) (hn : W64 n) (s : List UInt8) (ks : List CO) (a : Option Addr) (cap : Nat) (w : World) (hl : s.length + (P.xN t).length + (P.xN n).length ≤ 2000000000000) :
    Calls Tryd.prog 17 #[.agg #[.int .i64 2, .int .i64 t, .string (bs s), .int .i64 n, .slice a ks.length cap]] w (TextTo ((((bs (P.xN t) ++ ⟨#[58]⟩) ++ bs s) ++ ⟨#[32, 61, 61, 32]⟩) ++ bs (P.xN n)) w) := by
  have hbl : Below w.heap.size w (w.alloc (.cells #[.int .i64 2, .int .i64 t, .string (bs s), .int .i64 n, .slice a ks.length cap] 26)) := (Below.refl _ _).alloc (Nat.le_refl _) _
  have HE := Lib.hid (Blk.new w 26 #[.int .i64 2, .int .i64 t, .string (bs s), .int .i64 n, .slice a ks.length cap])
  have HD := Lib.hid (fun w' (hw : Below (w.alloc (.cells #[.int .i64 2, .int .i64 t, .string (bs s), .int .i64 n, .slice a ks.length cap] 26)).heap.size (w.alloc (.cells #[.int .i64 2, .int .i64 t, .string (bs s), .int .i64 n, .slice a ks.length cap] 26)) w') => (rdig_any n hn w').mono fun e w'' (hx : TextTo (bs (P.xN n)) w' e w'') => (show KidTo (bs (P.xN n)) (w.alloc (.cells #[.int .i64 2, .int .i64 t, .string (bs s), .int .i64 n, .slice a ks.length cap] 26)) e w'' from ⟨hx.1, hw.trans (hx.2.mono hw.size)⟩))
  have HT := Lib.hid (fun w' (hw : Below (w.alloc (.cells #[.int .i64 2, .int .i64 t, .string (bs s), .int .i64 n, .slice a ks.length cap] 26)).heap.size (w.alloc (.cells #[.int .i64 2, .int .i64 t, .string (bs s), .int .i64 n, .slice a ks.length cap] 26)) w') => (rdig_any t ht w').mono fun e w'' (hx : TextTo (bs (P.xN t)) w' e w'') => (show KidTo (bs (P.xN t)) (w.alloc (.cells #[.int .i64 2, .int .i64 t, .string (bs s), .int .i64 n, .slice a ks.length cap] 26)) e w'' from ⟨hx.1, hw.trans (hx.2.mono hw.size)⟩))
  have HBL := Lib.hid hbl
  have sS : (bs s).size ≤ 2000000000000 := by rw [bs_size]; omega
  have sD : (bs (P.xN n)).size ≤ 2000000000000 := by rw [bs_size]; omega
  have sT : (bs (P.xN t)).size ≤ 2000000000000 := by rw [bs_size]; omega
  clear hbl hl ht hn
  generalize bs (P.xN n) = D at *
  generalize bs (P.xN t) = T at *
  generalize bs s = S at *
  go_enter Tryd.func17, Tryd.ntmps17
  go_wp2_with fail
  generalize (w.alloc (.cells #[.int .i64 2, .int .i64 t, .string S, .int .i64 n, .slice a ks.length cap] 26)) = wb at *
  have z0 : ¬ 9223372036854775807 < T.size + 1 := by omega
  have z1 : ¬ 9223372036854775807 < T.size + 1 + S.size := by omega
  have z2 : ¬ 9223372036854775807 < T.size + 1 + S.size + 4 := by omega
  have z3 : ¬ 9223372036854775807 < T.size + 1 + S.size + 4 + D.size := by omega
  have lE := HE.out.lt
  have hb0 : Below wb.heap.size wb wb := Below.refl _ _
  have hbD : Below wb.heap.size wb wb.drew := (Below.refl _ _).drew
  have HK7 := Lib.hid (fun w' (h7 : Below wb.heap.size wb w') => (show w'.cell? ⟨w.heap.size, 1, none⟩ = some (.int .i64 t) ∧ w'.cell? ⟨w.heap.size, 2, none⟩ = some (.string S) ∧ w'.cell? ⟨w.heap.size, 3, none⟩ = some (.int .i64 n) from ⟨(HE.out.live' h7).cell 1, (HE.out.live' h7).cell 2, (HE.out.live' h7).cell 3⟩))
  have HK0 := Lib.hid (HK7.out wb hb0)
  have HKD := Lib.hid (HK7.out wb.drew hbD)
  go_region_held3 (fun w' => w'.cell? ⟨w.heap.size, 1, none⟩ = some (.int .i64 t) ∧ w'.cell? ⟨w.heap.size, 2, none⟩ = some (.string S) ∧ w'.cell? ⟨w.heap.size, 3, none⟩ = some (.int .i64 n))
    (first
      | with_reducible exact HK0.out
      | with_reducible exact HKD.out
      | with_reducible assumption
      | go_keep)
    (first
      | (go_at_call 35; (with_reducible refine (HT.out _ (by assumption)).mono ?_); rintro e w7 ⟨rfl, hw7⟩; have hSw7 := HK7.out w7 hw7)
      | (go_at_call 35; (with_reducible refine (HD.out _ (by assumption)).mono ?_); rintro e w8 ⟨rfl, hw8⟩; have hSw8 := HK7.out w8 hw8))
  all_goals
    go_wp2_with fail
    go_ret
    first
      | exact ⟨rfl, HBL.out.trans (hw8.mono HBL.out.size)⟩
      | exact ⟨rfl, HBL.out.trans (hw7.mono HBL.out.size)⟩
set_option maxHeartbeats 3200000 in
/-- Of any condition whose Kids' texts are told. -/
theorem rc_step (e : CO) (hw : wfK e) (hl : (P.xC e).length ≤ 1000000000000) (ht : ∀ z, W64 z → (P.xN z).length ≤ 100) (Q : Nat → Prop) (hk : ∀ k, (∃ o t s n ks, e = .mk o t s n ks ∧ k ∈ ks) → ∀ v w', LC Q w' v k → Calls Tryd.prog 17 #[v] w' (TextTo (bs (P.xC k)) w')) (v : Value) (w : World) (hv : LC Q w v e) :
    Calls Tryd.prog 17 #[v] w (TextTo (bs (P.xC e)) w) := by
  obtain ⟨op, t, s, n, ks⟩ := e
  have hk' : ∀ e ∈ ks, ∀ v w', LC Q w' v e → Calls Tryd.prog 17 #[v] w' (TextTo (bs (P.xC e)) w') := fun k h => hk k ⟨_, _, _, _, _, rfl, h⟩
  unfold LC at hv
  obtain ⟨a, cap, rfl, hm, hc⟩ := hv
  have hx : IsKs Q w (.slice a ks.length cap) ks := ⟨a, cap, rfl, hm, hc⟩
  unfold wfK at hw
  have l1 := ht t hw.2.1
  have l2 := ht n hw.2.2.2.1
  by_cases h1 : op = 1
  · subst h1
    have e0 : P.xC (.mk 1 t s n ks) = s ++ ([32] ++ ([61, 61] ++ ([32] ++ P.xN n))) := by rw [P.xC, if_pos rfl]
    rw [e0] at hl ⊢
    simp only [List.length_append, List.length_cons, List.length_nil] at hl
    have := rc_mem t n hw.2.1 hw.2.2.2.1 s ks a cap w (by omega)
    rw [show ((bs s ++ ⟨#[32, 61, 61, 32]⟩) ++ bs (P.xN n) : ByteArray) = bs (s ++ ([32] ++ ([61, 61] ++ ([32] ++ P.xN n)))) by
      show (bs s ++ bs [32, 61, 61, 32]) ++ bs (P.xN n) = _
      simp only [bs_app]
      simp] at this
    exact this
  by_cases h2 : op = 2
  · subst h2
    have e0 : P.xC (.mk 2 t s n ks) = P.xN t ++ ([58] ++ (s ++ ([32] ++ ([61, 61] ++ ([32] ++ P.xN n))))) := by rw [P.xC, if_neg (by decide), if_pos rfl]
    rw [e0] at hl ⊢
    simp only [List.length_append, List.length_cons, List.length_nil] at hl
    have := rc_reg t n hw.2.1 hw.2.2.2.1 s ks a cap w (by omega)
    rw [show ((((bs (P.xN t) ++ ⟨#[58]⟩) ++ bs s) ++ ⟨#[32, 61, 61, 32]⟩) ++ bs (P.xN n) : ByteArray) = bs (P.xN t ++ ([58] ++ (s ++ ([32] ++ ([61, 61] ++ ([32] ++ P.xN n)))))) by
      show (((bs (P.xN t) ++ bs [58]) ++ bs s) ++ bs [32, 61, 61, 32]) ++ bs (P.xN n) = _
      simp only [bs_app]
      simp] at this
    exact this
  by_cases h3 : op = 3
  · subst h3
    have e0 : P.xC (.mk 3 t s n ks) = [110, 111, 116] ++ ([32] ++ sidK ks 0) := by rw [P.xC, if_neg (by decide), if_neg (by decide), if_pos rfl, xCs_mapK]; rfl
    rw [e0] at hl ⊢
    simp only [List.length_append, List.length_cons, List.length_nil] at hl
    have := rc_not t n s ks a cap Q w hx (by omega) hk'
    rw [show (⟨#[110, 111, 116, 32]⟩ ++ bs (sidK ks 0) : ByteArray) = bs ([110, 111, 116] ++ ([32] ++ sidK ks 0)) by
      show bs [110, 111, 116, 32] ++ bs (sidK ks 0) = _
      simp only [bs_app]
      simp] at this
    exact this
  by_cases h4 : op = 4
  · subst h4
    have e0 : P.xC (.mk 4 t s n ks) = [40] ++ (sidK ks 0 ++ ([32] ++ ([97, 110, 100] ++ ([32] ++ (sidK ks 1 ++ [41]))))) := by rw [P.xC, if_neg (by decide), if_neg (by decide), if_neg (by decide), if_pos rfl, xCs_mapK]; rfl
    rw [e0] at hl ⊢
    simp only [List.length_append, List.length_cons, List.length_nil] at hl
    have := rc_and t n s ks a cap Q w hx (by omega) hk'
    rw [show ((((⟨#[40]⟩ ++ bs (sidK ks 0)) ++ ⟨#[32, 97, 110, 100, 32]⟩) ++ bs (sidK ks 1)) ++ ⟨#[41]⟩ : ByteArray) = _ from txt_bin (sidK ks 0) [32, 97, 110, 100, 32] [97, 110, 100] (sidK ks 1) rfl] at this
    exact this
  by_cases h5 : op = 5
  · subst h5
    have e0 : P.xC (.mk 5 t s n ks) = [40] ++ (sidK ks 0 ++ ([32] ++ ([111, 114] ++ ([32] ++ (sidK ks 1 ++ [41]))))) := by rw [P.xC, if_neg (by decide), if_neg (by decide), if_neg (by decide), if_neg (by decide), if_pos rfl, xCs_mapK]; rfl
    rw [e0] at hl ⊢
    simp only [List.length_append, List.length_cons, List.length_nil] at hl
    have := rc_or t n s ks a cap Q w hx (by omega) hk'
    rw [show ((((⟨#[40]⟩ ++ bs (sidK ks 0)) ++ ⟨#[32, 111, 114, 32]⟩) ++ bs (sidK ks 1)) ++ ⟨#[41]⟩ : ByteArray) = _ from txt_bin (sidK ks 0) [32, 111, 114, 32] [111, 114] (sidK ks 1) rfl] at this
    exact this
  have e0 : P.xC (.mk op t s n ks) = [] := by
    rw [P.xC, if_neg h1, if_neg h2, if_neg h3, if_neg h4, if_neg h5]
  rw [e0]
  have b1 : (op == 1) = false := by simpa using h1
  have b2 : (op == 2) = false := by simpa using h2
  have b3 : (op == 3) = false := by simpa using h3
  have b4 : (op == 4) = false := by simpa using h4
  have b5 : (op == 5) = false := by simpa using h5
  show Calls Tryd.prog 17 #[.agg #[.int .i64 op, .int .i64 t, .string (bs s), .int .i64 n, .slice a ks.length cap]] w (TextTo ⟨#[]⟩ w)
  clear hk hk' hx hw hl e0 hm hc l1 l2 ht
  generalize bs s = S at *
  go_enter Tryd.func17, Tryd.ntmps17
  go_wp2_with fail
  go_ret
  exact ⟨rfl, (Below.refl _ _).alloc (Nat.le_refl _) _⟩
end Go.Proofs.YtchokfgffnomoaaDoor.Lx
