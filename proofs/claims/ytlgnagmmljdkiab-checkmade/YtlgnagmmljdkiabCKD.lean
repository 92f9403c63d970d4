/-
  What an audit asks of statements of each kind, as contracts: the modes, the register, the location.
-/
import Derived.Test.YtlgnagmmljdkiabCKB
import Derived.Test.YtlgnagmmljdkiabMName
import Derived.Laws.EntriesVeiled
import Derived.Test.YtlgnagmmljdkiabCKA
namespace Go.Proofs.Ytlgnagmmljdkiab.Lx
open Go.RowKit
open P (wth EX CO ST PG setsB regsL nodeE nodeC eachX eachXs eachC eachCs withinX withinC dpX dpXs dpC dpCs andE regE locE modeB argsN accB)
set_option maxRecDepth 100000
set_option linter.unusedVariables false
set_option linter.unusedSimpArgs false

theorem two_newK (w : World) (t1 t2 : TypeId) (c1 c2 : Array Value) :
    Below w.heap.size w ((w.alloc (.cells c1 t1)).alloc (.cells c2 t2)) ∧ Blk ((w.alloc (.cells c1 t1)).alloc (.cells c2 t2)) w.heap.size t1 c1 ∧ Blk ((w.alloc (.cells c1 t1)).alloc (.cells c2 t2)) (w.heap.size + 1) t2 c2 := by
  have h2 := Blk.new (w.alloc (.cells c1 t1)) t2 c2
  rw [show (w.alloc (.cells c1 t1)).heap.size = w.heap.size + 1 by simp] at h2
  exact ⟨((Below.refl _ _).alloc (Nat.le_refl _) _).alloc (by simp) _, (Blk.new w t1 c1).alloc _, h2⟩
def MiTo (ms : List Nat) (z : Int) (w : World) (e : Ending) (w' : World) : Prop := ∃ r : Int, e = .returned (.int .i64 r) ∧ (0 ≤ r ↔ ∃ m ∈ ms, z = (m : Int)) ∧ -1 ≤ r ∧ r ≤ 100 ∧ w = w'
set_option maxHeartbeats 1600000 in
theorem mindex_any (g cap : Nat) (ms : List Nat) (z : Int) (w : World) (hms : Ints w g ms) (hl : ms.length ≤ 9) :
    Calls Try.prog 106 #[.slice (some ⟨g, 0, none⟩) ms.length cap, .int .i64 z] w (MiTo ms z w) := by
  have HM := Lib.hid hms
  clear hms
  go_enter Try.func106, Try.ntmps106
  go_wp2_with fail
  go_loop [8] (fun t => ∃ j : Nat, t = .int .i64 j ∧ j ≤ ms.length ∧ ∀ i, i < j → z ≠ (ms.getD i 0 : Nat)) (fun t => ms.length - (intOf t).toNat)
  case atStart => exact ⟨0, rfl, Nat.zero_le _, fun i hi => by omega⟩
  case round =>
    obtain ⟨j, rfl, hj, hno⟩ := hrel
    have HNO := Lib.hid hno
    clear hno
    by_cases hlt : j < ms.length
    · have hc := HM.out j hlt
      rw [Nat.zero_add] at hc
      have d1 : (0 : Int) ≤ (j : Int) := by omega
      have d2 : (j : Int) < (ms.length : Int) := by omega
      have HG := Lib.hid (getD_mem hlt)
      generalize hx : ms.getD j 0 = x at *
      have HXX := Lib.hid hx
      clear hx
      by_cases hz : z = (x : Int)
      · have e1 : (z == (x : Int)) = true := by simpa using hz
        have HZ := Lib.hid hz
        clear hz
        go_wp2_with fail
        go_ret
        exact ⟨j, rfl, ⟨fun _ => ⟨x, HG.out, HZ.out⟩, fun _ => by omega⟩, by omega, by omega, rfl⟩
      · have e1 : (z == (x : Int)) = false := by simpa using hz
        have HZ := Lib.hid hz
        clear hz
        go_wp2_with fail
        go_round
        case rel =>
          refine ⟨j + 1, by go_num, by omega, fun i hi => ?_⟩
          by_cases e : i = j
          · subst e
            rw [HXX.out]
            exact HZ.out
          · exact HNO.out i (by omega)
        case measure => simp [intOf]; omega
    · obtain rfl : j = ms.length := by omega
      clear hlt
      go_wp2_with fail
      go_ret
      refine ⟨-1, rfl, ⟨fun h => by omega, fun ⟨m, hm, hz⟩ => ?_⟩, by omega, by omega, rfl⟩
      obtain ⟨i, hi, he⟩ := List.getElem_of_mem hm
      exact absurd (by rw [List.getD_eq_getElem?_getD, List.getElem?_eq_getElem hi]; exact hz.trans (by rw [← he]; rfl)) (HNO.out i hi)
set_option maxHeartbeats 800000 in
theorem mhas_any (g cap : Nat) (ms : List Nat) (z : Int) (b : Bool) (w : World) (hms : Ints w g ms) (hl : ms.length ≤ 9) (hb : b = true ↔ ∃ m ∈ ms, z = (m : Int)) :
    Calls Try.prog 92 #[.slice (some ⟨g, 0, none⟩) ms.length cap, .int .i64 z] w (fun e w' => e = .returned (.bool b) ∧ w = w') := by
  have HI := Lib.hid (mindex_any g cap ms z w hms hl)
  have HB := Lib.hid hb
  have HC := Lib.hid (show Calls Try.prog 102 #[.slice (some ⟨g, 0, none⟩) ms.length cap, .int .i64 z] w (fun e w' => e = .returned (.bool b) ∧ w = w') by
    clear hms hb
    go_enter Try.func102, Try.ntmps102
    go_wp2_with fail
    with_reducible refine HI.out.mono ?_
    rintro e w2 ⟨r, rfl, hr, h1, h2, rfl⟩
    have HR := Lib.hid hr
    clear hr
    by_cases h0 : 0 ≤ r
    · have HBT := Lib.hid (show b = true from HB.out.2 (HR.out.1 h0))
      have dd : decide (0 ≤ r) = true := decide_eq_true h0
      go_wp2_with fail
      go_ret
      exact ⟨congrArg (fun x => Ending.returned (.bool x)) HBT.out.symm, rfl⟩
    · have HBT := Lib.hid (show b = false by
        cases hb : b
        · rfl
        · exact absurd (HR.out.2 (HB.out.1 hb)) h0)
      have dd : decide (0 ≤ r) = false := decide_eq_false h0
      go_wp2_with fail
      go_ret
      exact ⟨congrArg (fun x => Ending.returned (.bool x)) HBT.out.symm, rfl⟩)
  clear hms hb HI HB
  cases b
  all_goals
    go_enter Try.func92, Try.ntmps92
    go_wp2_with fail
    with_reducible refine HC.out.mono ?_
    rintro e w2 ⟨rfl, rfl⟩
    go_wp2_with fail
    go_ret
    exact ⟨rfl, rfl⟩
theorem results_cell_tmp {P : Program} {fn : Func} {q p : Tmp} {ty : TypeId} (h : fn.results = #[.cell p ty, .tmp q]) (tmps : Array Value) (w : World) (v : Value) (g : Nat) (t : TypeId) (cs : Array Value) (fr : Nat × Nat) (d : TypeDesc)
    (hq : tmps.getD q undef = v) (hp : tmps.getD p undef = .pointer (some ⟨g, 0, none⟩)) (hg : w.heap[g]? = some (.cells cs t fr))
    (hu : P.underlying ty = some d) (hd : (match d with | .struct _ | .array _ _ => true | _ => false) = true) (hi : (P.info? ty).map (·.size) = some cs.size) :
    (results fn tmps).run P w = .ok (.tuple #[.agg cs, v]) w := by
  have hp' : tmps[p]?.getD undef = .pointer (some ⟨g, 0, none⟩) := by simpa using hp
  have hq' : tmps[q]?.getD undef = v := by simpa using hq
  simp [results, h, hp', hq', asAddr, run_loadVar_row w g t ty cs fr d hg hu hd hi]
/-- What a kind's asks are. -/
abbrev asksV (a g m : Nat) (na : Int) (FR FL : Nat) : Array Value := #[.func (.func 92) #[.slice (some ⟨g, 0, none⟩) m m] #[], .int .i64 na, .func (.func FR) #[.pointer (some ⟨a, 0, none⟩)] #[], .func (.func FL) #[.pointer (some ⟨a, 0, none⟩)] #[]]
def AsTo (a : Nat) (ms : List Nat) (na : Int) (FR FL : Nat) (w : World) (e : Ending) (w' : World) : Prop := ∃ g, e = .returned (.tuple #[.agg (asksV a g ms.length na FR FL), .bool true]) ∧ Ints w' g ms ∧ Below w.heap.size w w'
theorem enters_register : Enters 93 := enters_of Try.func93 (by kernel_rfl) rfl
theorem enters_absent : Enters 94 := enters_of Try.func94 (by kernel_rfl) rfl
theorem enters_location : Enters 95 := enters_of Try.func95 (by kernel_rfl) rfl

set_option maxHeartbeats 3200000 in
theorem asks1_any (a : Nat) (w : World) : Calls Try.prog 77 #[.pointer (some ⟨a, 0, none⟩), .int .i64 1] w (AsTo a [0] 1 93 94 w) := by
  go_enter Try.func77, Try.ntmps77
  go_wp2_with fail
  obtain ⟨hb, h1, h2⟩ := two_newK w 123 3 (asksV a (w.heap.size + 1) 1 1 93 94) #[.int .i64 0]
  refine bodyPost_ret (results_cell_tmp (q := 5) (p := 4) rfl _ _ (.bool true) w.heap.size 123 (asksV a (w.heap.size + 1) 1 1 93 94) (0, 0) _ rfl rfl h1 Try.underlying123 rfl (by kernel_rfl)) rfl ?_
  exact ⟨w.heap.size + 1, rfl, ints_new (ms := [0]) h2, hb⟩
set_option maxHeartbeats 3200000 in
theorem asks2_any (a : Nat) (w : World) : Calls Try.prog 77 #[.pointer (some ⟨a, 0, none⟩), .int .i64 2] w (AsTo a [0, 1, 4] 0 93 95 w) := by
  go_enter Try.func77, Try.ntmps77
  go_wp2_with fail
  obtain ⟨hb, h1, h2⟩ := two_newK w 123 3 (asksV a (w.heap.size + 1) 3 0 93 95) #[.int .i64 0, .int .i64 1, .int .i64 4]
  refine bodyPost_ret (results_cell_tmp (q := 5) (p := 4) rfl _ _ (.bool true) w.heap.size 123 (asksV a (w.heap.size + 1) 3 0 93 95) (0, 0) _ rfl rfl h1 Try.underlying123 rfl (by kernel_rfl)) rfl ?_
  exact ⟨w.heap.size + 1, rfl, ints_new (ms := [0, 1, 4]) h2, hb⟩
set_option maxHeartbeats 3200000 in
theorem asks3_any (a : Nat) (w : World) : Calls Try.prog 77 #[.pointer (some ⟨a, 0, none⟩), .int .i64 3] w (AsTo a [0, 2, 4] 1 94 95 w) := by
  go_enter Try.func77, Try.ntmps77
  go_wp2_with fail
  obtain ⟨hb, h1, h2⟩ := two_newK w 123 3 (asksV a (w.heap.size + 1) 3 1 94 95) #[.int .i64 0, .int .i64 2, .int .i64 4]
  refine bodyPost_ret (results_cell_tmp (q := 5) (p := 4) rfl _ _ (.bool true) w.heap.size 123 (asksV a (w.heap.size + 1) 3 1 94 95) (0, 0) _ rfl rfl h1 Try.underlying123 rfl (by kernel_rfl)) rfl ?_
  exact ⟨w.heap.size + 1, rfl, ints_new (ms := [0, 2, 4]) h2, hb⟩
set_option maxHeartbeats 3200000 in
theorem asks4_any (a : Nat) (w : World) : Calls Try.prog 77 #[.pointer (some ⟨a, 0, none⟩), .int .i64 4] w (AsTo a [0, 1, 2, 3, 4] 1 93 95 w) := by
  go_enter Try.func77, Try.ntmps77
  go_wp2_with fail
  obtain ⟨hb, h1, h2⟩ := two_newK w 123 3 (asksV a (w.heap.size + 1) 5 1 93 95) #[.int .i64 0, .int .i64 1, .int .i64 2, .int .i64 3, .int .i64 4]
  refine bodyPost_ret (results_cell_tmp (q := 5) (p := 4) rfl _ _ (.bool true) w.heap.size 123 (asksV a (w.heap.size + 1) 5 1 93 95) (0, 0) _ rfl rfl h1 Try.underlying123 rfl (by kernel_rfl)) rfl ?_
  exact ⟨w.heap.size + 1, rfl, ints_new (ms := [0, 1, 2, 3, 4]) h2, hb⟩
set_option maxHeartbeats 3200000 in
theorem asks5_any (a : Nat) (w : World) : Calls Try.prog 77 #[.pointer (some ⟨a, 0, none⟩), .int .i64 5] w (AsTo a [0, 1, 2, 3, 4] 2 93 95 w) := by
  go_enter Try.func77, Try.ntmps77
  go_wp2_with fail
  obtain ⟨hb, h1, h2⟩ := two_newK w 123 3 (asksV a (w.heap.size + 1) 5 2 93 95) #[.int .i64 0, .int .i64 1, .int .i64 2, .int .i64 3, .int .i64 4]
  refine bodyPost_ret (results_cell_tmp (q := 5) (p := 4) rfl _ _ (.bool true) w.heap.size 123 (asksV a (w.heap.size + 1) 5 2 93 95) (0, 0) _ rfl rfl h1 Try.underlying123 rfl (by kernel_rfl)) rfl ?_
  exact ⟨w.heap.size + 1, rfl, ints_new (ms := [0, 1, 2, 3, 4]) h2, hb⟩
set_option maxHeartbeats 3200000 in
theorem asks6_any (a : Nat) (w : World) : Calls Try.prog 77 #[.pointer (some ⟨a, 0, none⟩), .int .i64 6] w (AsTo a [1, 2, 3, 4] 0 94 94 w) := by
  go_enter Try.func77, Try.ntmps77
  go_wp2_with fail
  obtain ⟨hb, h1, h2⟩ := two_newK w 123 3 (asksV a (w.heap.size + 1) 4 0 94 94) #[.int .i64 1, .int .i64 2, .int .i64 3, .int .i64 4]
  refine bodyPost_ret (results_cell_tmp (q := 5) (p := 4) rfl _ _ (.bool true) w.heap.size 123 (asksV a (w.heap.size + 1) 4 0 94 94) (0, 0) _ rfl rfl h1 Try.underlying123 rfl (by kernel_rfl)) rfl ?_
  exact ⟨w.heap.size + 1, rfl, ints_new (ms := [1, 2, 3, 4]) h2, hb⟩
set_option maxHeartbeats 3200000 in
theorem asks7_any (a : Nat) (w : World) : Calls Try.prog 77 #[.pointer (some ⟨a, 0, none⟩), .int .i64 7] w (AsTo a [0] 1 94 94 w) := by
  go_enter Try.func77, Try.ntmps77
  go_wp2_with fail
  obtain ⟨hb, h1, h2⟩ := two_newK w 123 3 (asksV a (w.heap.size + 1) 1 1 94 94) #[.int .i64 0]
  refine bodyPost_ret (results_cell_tmp (q := 5) (p := 4) rfl _ _ (.bool true) w.heap.size 123 (asksV a (w.heap.size + 1) 1 1 94 94) (0, 0) _ rfl rfl h1 Try.underlying123 rfl (by kernel_rfl)) rfl ?_
  exact ⟨w.heap.size + 1, rfl, ints_new (ms := [0]) h2, hb⟩
set_option maxHeartbeats 3200000 in
theorem asks_odd (a : Nat) (k : Int) (h : ¬ (1 ≤ k ∧ k ≤ 7)) (w : World) : Calls Try.prog 77 #[.pointer (some ⟨a, 0, none⟩), .int .i64 k] w (fun e w' => e = .returned (.tuple #[.agg #[.nilFunc, .int .i64 0, .nilFunc, .nilFunc], .bool false]) ∧ Below w.heap.size w w') := by
  have e1 : (k == 1) = false := by simp; omega
  have e2 : (k == 2) = false := by simp; omega
  have e3 : (k == 3) = false := by simp; omega
  have e4 : (k == 4) = false := by simp; omega
  have e5 : (k == 5) = false := by simp; omega
  have e6 : (k == 6) = false := by simp; omega
  have e7 : (k == 7) = false := by simp; omega
  clear h
  go_enter Try.func77, Try.ntmps77
  go_wp2_with fail
  refine bodyPost_ret (results_cell_tmp (q := 5) (p := 4) rfl _ _ (.bool false) w.heap.size 123 #[.nilFunc, .int .i64 0, .nilFunc, .nilFunc] (0, 0) _ rfl rfl (Blk.new w _ _) Try.underlying123 rfl (by kernel_rfl)) rfl ?_
  exact ⟨rfl, one_belowN _ _⟩
/-- What is asked of a kind: the modes' list, how many Args, which asks the register and the location. -/
structure KndTo (B a : Nat) (x : PV) (locs regs : List (List UInt8)) (k : Int) (ms : List Nat) (FR FL : Nat) : Prop where
  asks : ∀ w, Calls Try.prog 77 #[.pointer (some ⟨a, 0, none⟩), .int .i64 k] w (AsTo a ms (argsN k : Nat) FR FL w)
  len : ms.length ≤ 9
  mode : ∀ z : Int, modeB k z = true ↔ ∃ m ∈ ms, z = (m : Int)
  eR : Enters FR
  eL : Enters FL
  reg : ∀ (part : Int) (lv : Value) (lm : Option Nat) (st : Int) (w : World) (r : List UInt8), Ad B a x part lv lm st locs regs w → r.length ≤ maxLen → regs.length ≤ 1000000 → Calls Try.prog FR #[.pointer (some ⟨a, 0, none⟩), .string (bs r)] w (ErTo (regE locs regs k r) w)
  loc : ∀ (part : Int) (lv : Value) (lm : Option Nat) (st : Int) (w : World) (r : List UInt8), Ad B a x part lv lm st locs regs w → r.length ≤ maxLen → Calls Try.prog FL #[.pointer (some ⟨a, 0, none⟩), .string (bs r)] w (ErTo (locE locs k r) w)
theorem regE_yes (locs regs : List (List UInt8)) (k : Int) (r : List UInt8) (h : setsB k = true) : regE locs regs k r = if nameB r = false ∨ r ∈ locs then 4 else if r ∈ regs ∨ regs.length < 4 then 0 else 3 := by unfold P.regE; rw [if_pos h]
theorem regE_no (locs regs : List (List UInt8)) (k : Int) (r : List UInt8) (h : setsB k = false) : regE locs regs k r = if r = [] then 0 else 1 := by unfold P.regE; rw [if_neg (by rw [h]; decide)]
theorem locE_yes (locs : List (List UInt8)) (k : Int) (r : List UInt8) (h : accB k = true) : locE locs k r = if r ∈ locs then 0 else 4 := by unfold P.locE; rw [if_pos h]
theorem locE_no (locs : List (List UInt8)) (k : Int) (r : List UInt8) (h : accB k = false) : locE locs k r = if r = [] then 0 else 1 := by unfold P.locE; rw [if_neg (by rw [h]; decide)]
theorem knd_any (B a : Nat) (x : PV) (locs regs : List (List UInt8)) (k : Int) (hk : 1 ≤ k ∧ k ≤ 7) : ∃ ms FR FL, KndTo B a x locs regs k ms FR FL := by
  have h7 : k = 1 ∨ k = 2 ∨ k = 3 ∨ k = 4 ∨ k = 5 ∨ k = 6 ∨ k = 7 := by omega
  rcases h7 with rfl | rfl | rfl | rfl | rfl | rfl | rfl
  · refine ⟨[0], 93, 94, asks1_any a, by decide, fun z => ?_, enters_register, enters_absent, fun part lv lm st w r h hr hl => by rw [regE_yes _ _ _ _ rfl]; exact register_any h r hr hl, fun part lv lm st w r h hr => by rw [locE_no _ _ _ rfl]; exact absent_any a r w⟩
    simp [P.modeB]
    try omega
  · refine ⟨[0, 1, 4], 93, 95, asks2_any a, by decide, fun z => ?_, enters_register, enters_location, fun part lv lm st w r h hr hl => by rw [regE_yes _ _ _ _ rfl]; exact register_any h r hr hl, fun part lv lm st w r h hr => by rw [locE_yes _ _ _ rfl]; exact location_any h r hr⟩
    simp [P.modeB]
    try omega
  · refine ⟨[0, 2, 4], 94, 95, asks3_any a, by decide, fun z => ?_, enters_absent, enters_location, fun part lv lm st w r h hr hl => by rw [regE_no _ _ _ _ rfl]; exact absent_any a r w, fun part lv lm st w r h hr => by rw [locE_yes _ _ _ rfl]; exact location_any h r hr⟩
    simp [P.modeB]
    try omega
  · refine ⟨[0, 1, 2, 3, 4], 93, 95, asks4_any a, by decide, fun z => ?_, enters_register, enters_location, fun part lv lm st w r h hr hl => by rw [regE_yes _ _ _ _ rfl]; exact register_any h r hr hl, fun part lv lm st w r h hr => by rw [locE_yes _ _ _ rfl]; exact location_any h r hr⟩
    simp [P.modeB]
    try omega
  · refine ⟨[0, 1, 2, 3, 4], 93, 95, asks5_any a, by decide, fun z => ?_, enters_register, enters_location, fun part lv lm st w r h hr hl => by rw [regE_yes _ _ _ _ rfl]; exact register_any h r hr hl, fun part lv lm st w r h hr => by rw [locE_yes _ _ _ rfl]; exact location_any h r hr⟩
    simp [P.modeB]
    try omega
  · refine ⟨[1, 2, 3, 4], 94, 94, asks6_any a, by decide, fun z => ?_, enters_absent, enters_absent, fun part lv lm st w r h hr hl => by rw [regE_no _ _ _ _ rfl]; exact absent_any a r w, fun part lv lm st w r h hr => by rw [locE_no _ _ _ rfl]; exact absent_any a r w⟩
    simp [P.modeB]
    try omega
  · refine ⟨[0], 94, 94, asks7_any a, by decide, fun z => ?_, enters_absent, enters_absent, fun part lv lm st w r h hr hl => by rw [regE_no _ _ _ _ rfl]; exact absent_any a r w, fun part lv lm st w r h hr => by rw [locE_no _ _ _ rfl]; exact absent_any a r w⟩
    simp [P.modeB]
    try omega
end Go.Proofs.Ytlgnagmmljdkiab.Lx
/-
  What an audit asks of a statement, as a contract.
-/

namespace Go.Proofs.Ytlgnagmmljdkiab.Lx
open Go.RowKit
open P (wth EX CO ST PG setsB regsL nodeE nodeC eachX eachXs eachC eachCs withinX withinC dpX dpXs dpC dpCs andE regE locE modeB argsN accB stE argsE cntS cntL)
set_option maxRecDepth 100000
set_option linter.unusedVariables false
set_option linter.unusedSimpArgs false

theorem stE_long {vals : Int} {locs regs : List (List UInt8)} {n ifs : Nat} {s : ST} (h : 16 < n ∨ 6 < ifs) : stE vals locs regs n ifs s = 3 := by
  cases s
  unfold P.stE
  simp only [if_pos h]
theorem stE_arg {vals : Int} {locs regs : List (List UInt8)} {n ifs : Nat} {k m : Int} {r l : List UInt8} {a : List EX} {th el : List ST} (h0 : ¬ (16 < n ∨ 6 < ifs)) (h : ¬ (1 ≤ k ∧ k ≤ 7) ∨ modeB k m = false ∨ a.length ≠ argsN k ∨ (k ≠ 7 ∧ 0 < th.length + el.length)) : stE vals locs regs n ifs (.mk k m r l a th el) = 1 := by
  unfold P.stE
  simp only [if_neg h0, if_pos h]
theorem stE_go {vals : Int} {locs regs : List (List UInt8)} {n ifs : Nat} {k m : Int} {r l : List UInt8} {a : List EX} {th el : List ST} (h0 : ¬ (16 < n ∨ 6 < ifs)) (h : ¬ (¬ (1 ≤ k ∧ k ≤ 7) ∨ modeB k m = false ∨ a.length ≠ argsN k ∨ (k ≠ 7 ∧ 0 < th.length + el.length))) : stE vals locs regs n ifs (.mk k m r l a th el) = andE (regE locs regs k r) (andE (locE locs k l) (argsE (nodeE vals regs) a)) := by
  unfold P.stE
  simp only [if_neg h0, if_neg h]
theorem argsE_take {f : EX → Nat} : ∀ {ks : List EX} {j : Nat} {e : EX}, ks[j]? = some e → argsE f (ks.take j) = 0 → (withinX f e = 0 → argsE f (ks.take (j + 1)) = 0) ∧ (withinX f e ≠ 0 → argsE f ks = withinX f e)
  | [], j, e, h, _ => by simp at h
  | y :: ks, 0, e, h, _ => by
    simp at h
    subst h
    constructor
    · intro h0
      rw [List.take_succ_cons, List.take_zero, P.argsE, P.argsE, h0]
      rfl
    · intro h0
      rw [P.argsE]
      unfold P.andE
      rw [if_neg h0]
  | y :: ks, j + 1, e, h, h0 => by
    rw [List.take_succ_cons, P.argsE] at h0
    have hy : withinX f y = 0 := by
      unfold P.andE at h0
      split at h0
      · assumption
      · exact absurd h0 (by assumption)
    have h1 : argsE f (ks.take j) = 0 := by
      unfold P.andE at h0
      rw [if_pos hy] at h0
      exact h0
    have ih := argsE_take (f := f) (ks := ks) (j := j) (e := e) (by simpa using h) h1
    constructor
    · intro he
      rw [List.take_succ_cons, P.argsE, hy]
      exact ih.1 he
    · intro he
      rw [P.argsE, hy]
      exact ih.2 he
theorem nodeE_le (vals : Int) (regs : List (List UInt8)) (e : EX) : nodeE vals regs e ≤ 100 := by
  obtain ⟨o, n, s, ks⟩ := e
  unfold P.nodeE
  repeat (first | omega | split)
theorem andE_no {a b : Nat} (h : a ≠ 0) : andE a b = a := by unfold P.andE; rw [if_neg h]
theorem andE_go {b : Nat} : andE 0 b = b := rfl
theorem ErTo.is {n : Nat} {w : World} : ErTo n w = (fun e w' => e = .returned (.int .i64 (n : Nat)) ∧ Below w.heap.size w w') := rfl
theorem four_cellsK {w : World} {g : Nat} {t : TypeId} {a c d e : Value} (h : Blk w g t #[a, c, d, e]) : w.cell? ⟨g, 0, none⟩ = some a ∧ w.cell? ⟨g, 1, none⟩ = some c ∧ w.cell? ⟨g, 2, none⟩ = some d ∧ w.cell? ⟨g, 3, none⟩ = some e := ⟨h.cell 0, h.cell 1, h.cell 2, h.cell 3⟩
theorem er_zero {F : Nat} {args : Array Value} {n : Nat} {w : World} (h : Calls Try.prog F args w (ErTo n w)) (h0 : n = 0) : Calls Try.prog F args w (fun e w' => e = .returned (.int .i64 0) ∧ Below w.heap.size w w') := by
  subst h0
  exact h
theorem er_some {F : Nat} {args : Array Value} {n : Nat} {w : World} (h : Calls Try.prog F args w (ErTo n w)) : Calls Try.prog F args w (fun e w' => e = .returned (.int .i64 (n : Nat)) ∧ Below w.heap.size w w') := h
theorem er_flags {n : Nat} (h : n ≠ 0) : ((n : Int) != 0) = true ∧ ((n : Int) == 0) = false ∧ (n == 0) = false := ⟨by simp; omega, by simp; omega, by simpa using h⟩

set_option maxHeartbeats 25600000 in
theorem ckstmt_any {B a : Nat} {x : PV} {part : Int} {lv : Value} {lm : Option Nat} {n : Nat} {locs regs : List (List UInt8)} {w : World} (h : Ad B a x part lv lm (n : Nat) locs regs w) (hn : n ≤ 10000000) (hrl : regs.length ≤ 1000000) (ifs : Nat) (hifs : ifs ≤ 10000000) (z : Int) (hz : z = (ifs : Nat)) (s : ST) (hcnt : cntS s ≤ 100000) (v : Value) (hv : LS (fun _ => True) w v s) (hw : wfS s) :
    Calls Try.prog 59 #[.pointer (some ⟨a, 0, none⟩), v, .int .i64 z] w (ErTo (stE x.vals locs regs n ifs s) w) := by
  subst hz
  obtain ⟨kd, md, rg, lc, ar, th, el⟩ := s
  unfold LS at hv
  obtain ⟨aa, ca, at', ct, ae, ce, rfl, m1, m2, m3, l1, l2, l3⟩ := hv
  unfold maxLen at m1
  unfold wfS at hw
  obtain ⟨_, _, hrg, hlc, har, _, _⟩ := hw
  unfold P.cntS at hcnt
  have hth := P.len_cnt th
  have hel := P.len_cnt el
  have hb0 := one_belowN w (.cells #[.int .i64 kd, .int .i64 md, .string (bs rg), .string (bs lc), .slice aa ar.length ca, .slice at' th.length ct, .slice ae el.length ce] 45)
  have HB := Lib.hid hb0
  have HBX := Lib.hid (Blk.new w 45 #[.int .i64 kd, .int .i64 md, .string (bs rg), .string (bs lc), .slice aa ar.length ca, .slice at' th.length ct, .slice ae el.length ce])
  have HAd := Lib.hid h
  have HRG := Lib.hid hrg
  have HLC := Lib.hid hlc
  have HAR := Lib.hid har
  have HL1 := Lib.hid l1
  obtain ⟨rv, rm, g1, _⟩ := h.below hb0
  have a15 := g1.cell 15
  have a15' : (w.alloc (.cells #[.int .i64 kd, .int .i64 md, .string (bs rg), .string (bs lc), .slice aa ar.length ca, .slice at' th.length ct, .slice ae el.length ce] 45)).cell? ⟨a, 15, none⟩ = some (.int .i64 (n : Nat)) := a15
  clear h hrg hlc har l1 l2 l3 hb0 g1 a15
  generalize hE : stE x.vals locs regs n ifs (.mk kd md rg lc ar th el) = E at *
  have HE := Lib.hid hE
  clear hE
  generalize hRGe : bs rg = RG at *
  generalize hLCe : bs lc = LCX at *
  have HRGe := Lib.hid hRGe
  have HLCe := Lib.hid hLCe
  clear hRGe hLCe
  by_cases h16 : 16 < n
  · have d1 : decide ((16 : Int) < (n : Int)) = true := decide_eq_true (by omega)
    have d2 : decide (16 < n) = true := decide_eq_true h16
    have HV := Lib.hid (show 3 = E by rw [← HE.out, stE_long (.inl h16)])
    clear h16
    go_enter Try.func59, Try.ntmps59
    go_wp2_with fail
    go_ret
    exact ⟨congrArg (fun n : Nat => Ending.returned (.int .i64 (n : Nat))) HV.out, HB.out⟩
  have d1 : decide ((16 : Int) < (n : Int)) = false := decide_eq_false (by omega)
  have d2 : decide (16 < n) = false := decide_eq_false h16
  by_cases h6 : 6 < ifs
  · have d3 : decide ((6 : Int) < (ifs : Int)) = true := decide_eq_true (by omega)
    have d4 : decide (6 < ifs) = true := decide_eq_true h6
    have HV := Lib.hid (show 3 = E by rw [← HE.out, stE_long (.inr h6)])
    clear h16 h6
    go_enter Try.func59, Try.ntmps59
    go_wp2_with fail
    go_ret
    exact ⟨congrArg (fun n : Nat => Ending.returned (.int .i64 (n : Nat))) HV.out, HB.out⟩
  have d3 : decide ((6 : Int) < (ifs : Int)) = false := decide_eq_false (by omega)
  have d4 : decide (6 < ifs) = false := decide_eq_false h6
  have h00 : ¬ (16 < n ∨ 6 < ifs) := fun hh => hh.elim h16 h6
  have H00 := Lib.hid h00
  clear h16 h6 h00
  go_enter Try.func59, Try.ntmps59
  go_wp2_with fail
  generalize hW : w.alloc (.cells #[.int .i64 kd, .int .i64 md, .string RG, .string LCX, .slice aa ar.length ca, .slice at' th.length ct, .slice ae el.length ce] 45) = W at *
  clear hW
  obtain ⟨q0, q1, q2, q3, q4, q5, q6⟩ := seven_cellsK HBX.out
  by_cases hk : 1 ≤ kd ∧ kd ≤ 7
  · obtain ⟨ms, FR, FL, K⟩ := knd_any B a x locs regs kd hk
    have HK := Lib.hid K
    have HKD := Lib.hid hk
    clear K hk
    with_reducible refine (HK.out.asks W).mono ?_
    rintro e w2 ⟨g, rfl, hints, hb2⟩
    have HI := Lib.hid hints
    have HB2 := Lib.hid (HB.out.trans (hb2.mono HB.out.size))
    have HBX2 := Lib.hid (HBX.out.live' hb2)
    clear hints hb2 q0 q1 q2 q3 q4 q5 q6 a15'
    obtain ⟨q0, q1, q2, q3, q4, q5, q6⟩ := seven_cellsK HBX2.out
    have hb3 := one_belowN w2 (.cells (asksV a g ms.length (argsN kd : Nat) FR FL) 123)
    have HMH := Lib.hid (mhas_any g ms.length ms md (modeB kd md) (w2.alloc (.cells (asksV a g ms.length (argsN kd : Nat) FR FL) 123)) (fun i hi => (hb3.cell (p := ⟨g, 0 + i, none⟩) (World.block_lt_of_cell? w2 _ (HI.out i hi))).trans (HI.out i hi)) HK.out.len (HK.out.mode md))
    have HB3 := Lib.hid (HB2.out.trans (hb3.mono HB2.out.size))
    have HBX3 := Lib.hid (HBX2.out.live' hb3)
    have HAX := Lib.hid (Blk.new w2 123 (asksV a g ms.length (argsN kd : Nat) FR FL))
    have hna : (argsN kd : Nat) ≤ 2 := by
      unfold P.argsN
      repeat (first | omega | split)
    generalize hNA : argsN kd = NAx at *
    have HNA := Lib.hid hNA
    generalize hMB : modeB kd md = MB at *
    have HMB := Lib.hid hMB
    have z0 := fun o => (seven_cellsK (HBX2.out.live' (one_belowN w2 o))).1
    have z1 := fun o => (seven_cellsK (HBX2.out.live' (one_belowN w2 o))).2.1
    have z2 := fun o => (seven_cellsK (HBX2.out.live' (one_belowN w2 o))).2.2.1
    have z3 := fun o => (seven_cellsK (HBX2.out.live' (one_belowN w2 o))).2.2.2.1
    have z4 := fun o => (seven_cellsK (HBX2.out.live' (one_belowN w2 o))).2.2.2.2.1
    have z5 := fun o => (seven_cellsK (HBX2.out.live' (one_belowN w2 o))).2.2.2.2.2.1
    have z6 := fun o => (seven_cellsK (HBX2.out.live' (one_belowN w2 o))).2.2.2.2.2.2
    clear hb3 hNA hMB
    cases MB
    · have HV := Lib.hid (show 1 = E by rw [← HE.out, stE_arg H00.out (.inr (.inl HMB.out))])
      go_wp2_with fail
      with_reducible refine HMH.out.mono ?_
      rintro e w4 ⟨rfl, rfl⟩
      go_wp2_with fail
      go_ret
      exact ⟨congrArg (fun n : Nat => Ending.returned (.int .i64 (n : Nat))) HV.out, HB3.out⟩
    · go_wp2_with fail
      generalize hw3 : w2.alloc (.cells (asksV a g ms.length (NAx : Nat) FR FL) 123) = w3 at *
      clear hw3
      with_reducible refine HMH.out.mono ?_
      rintro e w4 ⟨rfl, rfl⟩
      clear q0 q1 q2 q3 q4 q5 q6 HBX2
      obtain ⟨q0, q1, q2, q3, q4, q5, q6⟩ := seven_cellsK HBX3.out
      obtain ⟨p0, p1, p2, p3⟩ := four_cellsK HAX.out
      by_cases hal : ar.length = NAx
      · have t1 : ((ar.length : Int) != (NAx : Int)) = false := by simp; omega
        have t2 : ((ar.length : Int) == (NAx : Int)) = true := by simp; omega
        have t3 : (ar.length == NAx) = true := by simpa using hal
        have t4 : (ar.length != NAx) = false := by simpa using hal
        have HAL := Lib.hid hal
        clear hal
        by_cases h7 : kd ≠ 7 ∧ 0 < th.length + el.length
        · have u1 : (kd != 7) = true := by simpa using h7.1
          have u2 : (kd == 7) = false := by simpa using h7.1
          have u3 : decide ((0 : Int) < (th.length : Int) + (el.length : Int)) = true := decide_eq_true (by omega)
          have HV := Lib.hid (show 1 = E by rw [← HE.out, stE_arg H00.out (.inr (.inr (.inr h7)))])
          clear h7
          go_wp2_with fail
          go_ret
          exact ⟨congrArg (fun n : Nat => Ending.returned (.int .i64 (n : Nat))) HV.out, HB3.out⟩
        · have HGO := Lib.hid (show E = andE (regE locs regs kd rg) (andE (locE locs kd lc) (argsE (nodeE x.vals regs) ar)) by
            rw [← HE.out, stE_go H00.out]
            rintro (hh | hh | hh | hh)
            · exact hh HKD.out
            · rw [HMB.out] at hh
              cases hh
            · rw [HNA.out] at hh
              exact hh HAL.out
            · exact h7 hh)
          have hu : ((kd != 7) = false ∧ (kd == 7) = true) ∨ ((kd != 7) = true ∧ (kd == 7) = false ∧ decide ((0 : Int) < (th.length : Int) + (el.length : Int)) = false) := by
            by_cases hk7 : kd = 7
            · exact .inl ⟨by simpa using hk7, by simpa using hk7⟩
            · exact .inr ⟨by simpa using hk7, by simpa using hk7, decide_eq_false (by omega)⟩
          have HER := Lib.hid (HK.out.eR)
          have HEL := Lib.hid (HK.out.eL)
          have hRc := HK.out.reg part lv lm (n : Nat) w3 rg (HAd.out.below HB3.out) HRG.out hrl
          rw [HRGe.out] at hRc
          have HLc := Lib.hid (fun w' (hb : Below w.heap.size w w') => (show Calls Try.prog FL #[.pointer (some ⟨a, 0, none⟩), .string LCX] w' (ErTo (locE locs kd lc) w') from by rw [← HLCe.out]; exact HK.out.loc part lv lm (n : Nat) w' lc (HAd.out.below hb) HLC.out))
          generalize hre : regE locs regs kd rg = re at *
          generalize hle : locE locs kd lc = le at *
          have HRC := Lib.hid hRc
          clear hRc hre hle h7
          rcases hu with ⟨u1, u2⟩ | ⟨u1, u2, u3⟩
          all_goals
            go_wp2_with fail
            rw [HER.out, Oper.upon_enter]
            by_cases hr0 : re = 0
            · have HR0 := Lib.hid (er_zero HRC.out hr0)
              have HGO1 := Lib.hid (show E = andE le (argsE (nodeE x.vals regs) ar) by rw [HGO.out, hr0, andE_go])
              clear hr0
              with_reducible refine HR0.out.mono ?_
              rintro e w5 ⟨rfl, hb5⟩
              have HB5 := Lib.hid (HB3.out.trans (hb5.mono HB3.out.size))
              have HBX5 := Lib.hid (HBX3.out.live' hb5)
              have HAX5 := Lib.hid (HAX.out.live' hb5)
              have HL5 := Lib.hid (HLc.out w5 HB5.out)
              clear hb5 q0 q1 q2 q3 q4 q5 q6 p0 p1 p2 p3
              obtain ⟨q0, q1, q2, q3, q4, q5, q6⟩ := seven_cellsK HBX5.out
              obtain ⟨p0, p1, p2, p3⟩ := four_cellsK HAX5.out
              go_wp2_with fail
              rw [HEL.out, Oper.upon_enter]
              by_cases hl0 : le = 0
              · have HL0 := Lib.hid (er_zero HL5.out hl0)
                have HGO2 := Lib.hid (show E = argsE (nodeE x.vals regs) ar by rw [HGO1.out, hl0, andE_go])
                clear hl0
                with_reducible refine HL0.out.mono ?_
                rintro e w6 ⟨rfl, hb6⟩
                have HB6 := Lib.hid (HB5.out.trans (hb6.mono HB5.out.size))
                have HBX6 := Lib.hid (HBX5.out.live' hb6)
                clear hb6 q0 q1 q2 q3 q4 q5 q6 p0 p1 p2 p3
                obtain ⟨q0, q1, q2, q3, q4, q5, q6⟩ := seven_cellsK HBX6.out
                go_wp2_with fail
                go_loopw [82] (fun i wr => ∃ j : Nat, i = .int .i64 (j : Nat) ∧ j ≤ ar.length ∧ argsE (nodeE x.vals regs) (ar.take j) = 0 ∧ Below w6.heap.size w6 wr) (fun i _ => ar.length - (intOf i).toNat)
                case atStart => exact ⟨0, rfl, Nat.zero_le _, by rw [List.take_zero, P.argsE], Below.refl _ _⟩
                case round =>
                  obtain ⟨j, rfl, hj, hno, hbr⟩ := hrel
                  have HNO := Lib.hid hno
                  have HBR := Lib.hid hbr
                  clear hno hbr
                  by_cases hlt : j < ar.length
                  · obtain ⟨ga, off, rfl, _, hs⟩ : ∃ ga off, aa = some ⟨ga, off, none⟩ ∧ True ∧ LXs (fun _ => True) w ga off ar := by
                      rcases HL1.out with h0 | h0
                      · rw [h0] at hlt
                        simp at hlt
                      · exact h0
                    obtain ⟨y, a0, a1, a2, a3, hy, k0, k1, k2, k3, hlx⟩ := LXs.at ar hs j hlt
                    obtain ⟨yo, ym, ys, ya, yn, yc, hye⟩ := LX.any hlx
                    injection hye with hye
                    injection hye with hye
                    injection hye with g0 hye
                    injection hye with g1 hye
                    injection hye with g2 hye
                    injection hye with g3 hye
                    subst g0 g1 g2 g3
                    clear hye
                    have hbw := HB6.out.trans (HBR.out.mono HB6.out.size)
                    have hq : ∀ (o : Nat) (u : Value), w.cell? ⟨ga, o, none⟩ = some u → wr.cell? ⟨ga, o, none⟩ = some u := fun o u hu => (hbw.cell (p := ⟨ga, o, none⟩) (World.block_lt_of_cell? w _ hu)).trans hu
                    have c0 := hq _ _ k0
                    have c1 := hq _ _ k1
                    have c2 := hq _ _ k2
                    have c3 := hq _ _ k3
                    have hby := one_belowN wr (.cells #[.int .i64 yo, .int .i64 ym, .string ys, .slice ya yn yc] 47)
                    have hbwy := hbw.trans (hby.mono hbw.size)
                    have hask : AskX a (nodeE x.vals regs) (wr.alloc (.cells #[.int .i64 yo, .int .i64 ym, .string ys, .slice ya yn yc] 47)) := fun e v w' hb hl hwf => ckexpr_any ((HAd.out.below hbwy).below hb) e v hl hwf
                    have HY := Lib.hid (withinX_any a (nodeE x.vals regs) (nodeE_le _ _) y _ _ hask (LX.keep (Keeps.below hby (Nat.le_refl _)) y (LX.keep (Keeps.below hbw (Nat.le_refl _)) y hlx)) (wfXs_mem HAR.out y (List.mem_of_getElem? hy)))
                    have HBY := Lib.hid hby
                    have HTK := Lib.hid (argsE_take (f := nodeE x.vals regs) hy HNO.out)
                    have d5 : (0 : Int) ≤ (j : Int) := by omega
                    have d6 : (j : Int) < (ar.length : Int) := by omega
                    have d7 : decide ((j : Int) < (ar.length : Int)) = true := decide_eq_true (by omega)
                    have d8 : decide (j < ar.length) = true := decide_eq_true hlt
                    clear hs k0 k1 k2 k3 hlx hbw hq hby hy hask hbwy
                    generalize withinX (nodeE x.vals regs) y = FY at *
                    by_cases hdp : FY = 0
                    · have HY2 := Lib.hid (er_zero HY.out hdp)
                      have HDP := Lib.hid hdp
                      clear hdp
                      go_wp2_with fail
                      with_reducible refine HY2.out.mono ?_
                      rintro e w7 ⟨rfl, hb7⟩
                      go_wp2_with fail
                      go_roundw
                      case rel => exact ⟨j + 1, by go_num, by omega, HTK.out.1 HDP.out, HBR.out.trans ((HBY.out.trans (hb7.mono HBY.out.size)).mono HBR.out.size)⟩
                      case measure => simp [intOf]; omega
                    · obtain ⟨f1, f2, f3⟩ := er_flags hdp
                      have HDP := Lib.hid hdp
                      have HY2 := Lib.hid (er_some HY.out)
                      clear hdp
                      go_wp2_with fail
                      with_reducible refine HY2.out.mono ?_
                      rintro e w7 ⟨rfl, hb7⟩
                      go_wp2_with fail
                      go_ret
                      exact ⟨congrArg (fun n : Nat => Ending.returned (.int .i64 (n : Nat))) ((HTK.out.2 HDP.out).symm.trans HGO2.out.symm), HB6.out.trans ((HBR.out.trans ((HBY.out.trans (hb7.mono HBY.out.size)).mono HBR.out.size)).mono HB6.out.size)⟩
                  · obtain rfl : j = ar.length := by omega
                    have HRZ := Lib.hid (show 0 = E by rw [HGO2.out, ← HNO.out, List.take_length])
                    clear hlt
                    go_wp2_with fail
                    go_ret
                    exact ⟨congrArg (fun n : Nat => Ending.returned (.int .i64 (n : Nat))) HRZ.out, HB6.out.trans (HBR.out.mono HB6.out.size)⟩
              · obtain ⟨f1, f2, f3⟩ := er_flags hl0
                have HV := Lib.hid (show le = E by rw [HGO1.out, andE_no hl0])
                have HL0 := Lib.hid (er_some HL5.out)
                clear hl0
                with_reducible refine HL0.out.mono ?_
                rintro e w6 ⟨rfl, hb6⟩
                go_wp2_with fail
                go_ret
                exact ⟨congrArg (fun n : Nat => Ending.returned (.int .i64 (n : Nat))) HV.out, HB5.out.trans (hb6.mono HB5.out.size)⟩
            · obtain ⟨f1, f2, f3⟩ := er_flags hr0
              have HV := Lib.hid (show re = E by rw [HGO.out, andE_no hr0])
              have HR0 := Lib.hid (er_some HRC.out)
              clear hr0
              with_reducible refine HR0.out.mono ?_
              rintro e w5 ⟨rfl, hb5⟩
              go_wp2_with fail
              go_ret
              exact ⟨congrArg (fun n : Nat => Ending.returned (.int .i64 (n : Nat))) HV.out, HB3.out.trans (hb5.mono HB3.out.size)⟩
      · have t1 : ((ar.length : Int) != (NAx : Int)) = true := by simp; omega
        have t2 : ((ar.length : Int) == (NAx : Int)) = false := by simp; omega
        have t3 : (ar.length == NAx) = false := by simpa using hal
        have t4 : (ar.length != NAx) = true := by simpa using hal
        have HV := Lib.hid (show 1 = E by rw [← HE.out, stE_arg H00.out (.inr (.inr (.inl (by rw [HNA.out]; exact hal))))])
        clear hal
        go_wp2_with fail
        go_ret
        exact ⟨congrArg (fun n : Nat => Ending.returned (.int .i64 (n : Nat))) HV.out, HB3.out⟩
  · have HV := Lib.hid (show 1 = E by rw [← HE.out, stE_arg H00.out (.inl hk)])
    have HO := Lib.hid (asks_odd a kd hk W)
    clear hk
    with_reducible refine HO.out.mono ?_
    rintro e w2 ⟨rfl, hb2⟩
    have HB2 := Lib.hid (HB.out.trans (hb2.mono HB.out.size))
    have hb3 := one_belowN w2 (.cells #[.nilFunc, .int .i64 0, .nilFunc, .nilFunc] 123)
    have HB3 := Lib.hid (HB2.out.trans (hb3.mono HB2.out.size))
    clear hb2 hb3
    go_wp2_with fail
    go_ret
    exact ⟨congrArg (fun n : Nat => Ending.returned (.int .i64 (n : Nat))) HV.out, HB3.out⟩
end Go.Proofs.Ytlgnagmmljdkiab.Lx
/-
  PLAIN MATHEMATICS of blocks of statements: one after the other, what is wrong first. It proves nothing of Go.
-/
namespace Go.Proofs.Ytlgnagmmljdkiab.P
set_option maxRecDepth 100000
set_option linter.unusedVariables false
set_option linter.unusedSimpArgs false
mutual
theorem blkS_inv {vals : Int} {locs : Nms'} : ∀ (s : ST) (ifs : Nat) (c c' : Wk3), blkS vals locs ifs s c = .ok c' → c'.part = c.part + cntS s ∧ c'.n = c.n + cntS s ∧ c'.regs = regsS c.regs s
  | .mk k m r l a th el, ifs, c, c', h => by
    rw [blkS] at h
    split at h
    · cases h
    · cases h1 : blkL vals locs (ifs + 1) th ⟨c.part + 1, if setsB k = true then wth c.regs r else c.regs, c.n + 1⟩ with
      | error e =>
        rw [h1] at h
        cases h
      | ok c1 =>
        rw [h1] at h
        obtain ⟨a1, a2, a3⟩ := blkL_inv th _ _ _ h1
        obtain ⟨b1, b2, b3⟩ := blkL_inv el _ _ _ (show blkL vals locs (ifs + 1) el c1 = .ok c' from h)
        simp only at a1 a2 a3
        rw [cntS, regsS]
        exact ⟨by omega, by omega, by rw [b3, a3]⟩
theorem blkL_inv {vals : Int} {locs : Nms'} : ∀ (l : List ST) (ifs : Nat) (c c' : Wk3), blkL vals locs ifs l c = .ok c' → c'.part = c.part + cntL l ∧ c'.n = c.n + cntL l ∧ c'.regs = regsL c.regs l
  | [], ifs, c, c', h => by
    rw [blkL] at h
    cases h
    rw [cntL, regsL]
    exact ⟨rfl, rfl, rfl⟩
  | s :: ss, ifs, c, c', h => by
    rw [blkL] at h
    cases h1 : blkS vals locs ifs s c with
    | error e =>
      rw [h1] at h
      cases h
    | ok c1 =>
      rw [h1] at h
      obtain ⟨a1, a2, a3⟩ := blkS_inv s _ _ _ h1
      obtain ⟨b1, b2, b3⟩ := blkL_inv ss _ _ _ (show blkL vals locs ifs ss c1 = .ok c' from h)
      rw [cntL, regsL]
      exact ⟨by omega, by omega, by rw [b3, a3]⟩
end
mutual
theorem blkS_err {vals : Int} {locs : Nms'} : ∀ (s : ST) (ifs : Nat) (c : Wk3) (x : Nat × Nat), blkS vals locs ifs s c = .error x → x.1 ≠ 0
  | .mk k m r l a th el, ifs, c, x, h => by
    rw [blkS] at h
    split at h
    · rename_i h0
      cases h
      exact h0
    · cases h1 : blkL vals locs (ifs + 1) th ⟨c.part + 1, if setsB k = true then wth c.regs r else c.regs, c.n + 1⟩ with
      | error e =>
        rw [h1] at h
        cases h
        exact blkL_err th _ _ _ h1
      | ok c1 =>
        rw [h1] at h
        exact blkL_err el _ _ _ (show blkL vals locs (ifs + 1) el c1 = .error x from h)
theorem blkL_err {vals : Int} {locs : Nms'} : ∀ (l : List ST) (ifs : Nat) (c : Wk3) (x : Nat × Nat), blkL vals locs ifs l c = .error x → x.1 ≠ 0
  | [], ifs, c, x, h => by
    rw [blkL] at h
    cases h
  | s :: ss, ifs, c, x, h => by
    rw [blkL] at h
    cases h1 : blkS vals locs ifs s c with
    | error e =>
      rw [h1] at h
      cases h
      exact blkS_err s _ _ _ h1
    | ok c1 =>
      rw [h1] at h
      exact blkL_err ss _ _ _ (show blkL vals locs ifs ss c1 = .error x from h)
end
/-- One statement more of a block. -/
theorem blkL_step {vals : Int} {locs : Nms'} {ifs : Nat} : ∀ {ss : List ST} {j : Nat} {s : ST} {c0 c : Wk3}, ss[j]? = some s → blkL vals locs ifs (ss.take j) c0 = .ok c → (∀ c', blkS vals locs ifs s c = .ok c' → blkL vals locs ifs (ss.take (j + 1)) c0 = .ok c') ∧ (∀ x, blkS vals locs ifs s c = .error x → blkL vals locs ifs ss c0 = .error x)
  | [], j, s, c0, c, h, _ => by simp at h
  | y :: ss, 0, s, c0, c, h, h0 => by
    simp at h
    subst h
    rw [List.take_zero, blkL] at h0
    cases h0
    constructor
    · intro c' h1
      rw [List.take_succ_cons, List.take_zero, blkL, h1]
      show blkL vals locs ifs [] c' = _
      rw [blkL]
    · intro x h1
      rw [blkL, h1]
      rfl
  | y :: ss, j + 1, s, c0, c, h, h0 => by
    rw [List.take_succ_cons, blkL] at h0
    cases hy : blkS vals locs ifs y c0 with
    | error e =>
      rw [hy] at h0
      cases h0
    | ok c1 =>
      rw [hy] at h0
      obtain ⟨ih1, ih2⟩ := blkL_step (ss := ss) (j := j) (s := s) (c0 := c1) (c := c) (by simpa using h) h0
      constructor
      · intro c' h1
        rw [List.take_succ_cons, blkL, hy]
        exact ih1 c' h1
      · intro x h1
        rw [blkL, hy]
        exact ih2 x h1
theorem blkS_no {vals : Int} {locs : Nms'} {ifs : Nat} {k m : Int} {r l : List UInt8} {a : List EX} {th el : List ST} {c : Wk3} (h : stE vals locs c.regs (c.n + 1) ifs (.mk k m r l a th el) ≠ 0) : blkS vals locs ifs (.mk k m r l a th el) c = .error (stE vals locs c.regs (c.n + 1) ifs (.mk k m r l a th el), c.part + 1) := by
  rw [blkS, if_pos h]
theorem blkS_th {vals : Int} {locs : Nms'} {ifs : Nat} {k m : Int} {r l : List UInt8} {a : List EX} {th el : List ST} {c : Wk3} {x : Nat × Nat} (h : stE vals locs c.regs (c.n + 1) ifs (.mk k m r l a th el) = 0) (h1 : blkL vals locs (ifs + 1) th ⟨c.part + 1, if setsB k = true then wth c.regs r else c.regs, c.n + 1⟩ = .error x) : blkS vals locs ifs (.mk k m r l a th el) c = .error x := by
  rw [blkS, if_neg (fun hh => hh h), h1]
  rfl
theorem blkS_el {vals : Int} {locs : Nms'} {ifs : Nat} {k m : Int} {r l : List UInt8} {a : List EX} {th el : List ST} {c c1 : Wk3} (h : stE vals locs c.regs (c.n + 1) ifs (.mk k m r l a th el) = 0) (h1 : blkL vals locs (ifs + 1) th ⟨c.part + 1, if setsB k = true then wth c.regs r else c.regs, c.n + 1⟩ = .ok c1) : blkS vals locs ifs (.mk k m r l a th el) c = blkL vals locs (ifs + 1) el c1 := by
  rw [blkS, if_neg (fun hh => hh h), h1]
  rfl
theorem stE_few {vals : Int} {locs regs : Nms'} {n ifs : Nat} {s : ST} (h : stE vals locs regs n ifs s = 0) : n ≤ 16 ∧ ifs ≤ 6 := by
  by_cases hh : 16 < n ∨ 6 < ifs
  · cases s
    unfold stE at h
    simp only [if_pos hh] at h
    omega
  · omega
end Go.Proofs.Ytlgnagmmljdkiab.P
/-
  A block of statements as an audit walks it, as a contract.
-/

namespace Go.Proofs.Ytlgnagmmljdkiab.Lx
open Go.RowKit
open P (wth EX CO ST PG setsB regsL nodeE nodeC eachX eachXs eachC eachCs withinX withinC dpX dpXs dpC dpCs andE regE locE modeB argsN accB stE argsE cntS cntL blkL blkS Wk3 regsS wth)
set_option maxRecDepth 100000
set_option linter.unusedVariables false
set_option linter.unusedSimpArgs false

theorem Ad.ofNa {B a : Nat} {x : PV} {part : Int} {lv : Value} {lm : Option Nat} {st : Int} {locs regs regs' : List (List UInt8)} {w w' : World} (h : Ad B a x part lv lm st locs regs w) (hna : NA B a 13 76 (auC x part lv lm (.slice none 0 0) none st) regs' w') (hk : Kq B a w w') : Ad B a x part lv lm st locs regs' w' := by
  obtain ⟨rv, rm, h1, h2, h3, h4, h5, h6⟩ := h
  obtain ⟨v, m, g1, g2⟩ := hna
  rw [auC_regs] at g1
  exact ⟨v, m, g1, g2, h3.only hk.only (fun mb e => by
    rintro (e' | e')
    · exact blkMapOf h1 h3 e e'.symm
    · have := h4 mb e
      omega), h4, h5, Nat.le_trans h6 hk.size⟩
theorem Ad.set {B a : Nat} {x : PV} {part part' : Int} {lv : Value} {lm : Option Nat} {st st' : Int} {locs regs : List (List UInt8)} {w : World} (h : Ad B a x part lv lm st locs regs w) (i : Nat) (u : Value) (hi : ∀ rv rm, (auC x part lv lm rv rm st).setIfInBounds i u = auC x part' lv lm rv rm st') : Ad B a x part' lv lm st' locs regs (w.setCell ⟨a, i, none⟩ u) := by
  obtain ⟨rv, rm, h1, h2, h3, h4, h5, h6⟩ := h
  refine ⟨rv, rm, by rw [← hi rv rm]; exact h1.set i u, ⟨ownsRow_setCell_other h2.row (a := ⟨a, i, none⟩) (own_ne h2.row h1 (by decide)) u, h2.map.block (fun k hk => Below.heap_setCell _ _ _ _ (fun e => blkMapOf h1 h2.map hk e.symm)), h2.low⟩, h3.block (fun k hk => Below.heap_setCell _ _ _ _ (fun e => blkMapOf h1 h3 hk e.symm)), h4, h5, by simpa using h6⟩
theorem Ad.part {B a : Nat} {x : PV} {part part' : Int} {lv : Value} {lm : Option Nat} {st : Int} {locs regs : List (List UInt8)} {w : World} (h : Ad B a x part lv lm st locs regs w) (u : Int) (hu : u = part') : Ad B a x part' lv lm st locs regs (w.setCell ⟨a, 10, none⟩ (.int .i64 u)) := by
  subst hu
  exact h.set 10 _ (fun _ _ => rfl)
theorem Ad.st {B a : Nat} {x : PV} {part : Int} {lv : Value} {lm : Option Nat} {st st' : Int} {locs regs : List (List UInt8)} {w : World} (h : Ad B a x part lv lm st locs regs w) (u : Int) (hu : u = st') : Ad B a x part lv lm st' locs regs (w.setCell ⟨a, 15, none⟩ (.int .i64 u)) := by
  subst hu
  exact h.set 15 _ (fun _ _ => rfl)
/-- An audit that has stopped at a part. -/
def AdE (a p : Nat) (w : World) : Prop := ∃ cs : Array Value, Blk w a 76 cs ∧ cs[10]? = some (.int .i64 (p : Nat))
theorem AdE.below {a p : Nat} {w w' : World} (h : AdE a p w) (hb : Below w.heap.size w w') : AdE a p w' := by
  obtain ⟨cs, h1, h2⟩ := h
  exact ⟨cs, h1.live' hb, h2⟩
theorem Ad.e {B a : Nat} {x : PV} {part : Int} {lv : Value} {lm : Option Nat} {st : Int} {locs regs : List (List UInt8)} {w : World} (h : Ad B a x part lv lm st locs regs w) {p : Nat} (hp : part = (p : Nat)) : AdE a p w := by
  obtain ⟨rv, rm, h1, _⟩ := h
  subst hp
  exact ⟨_, h1, rfl⟩
/-- What a walk of a block leaves. -/
def BlkTo (B a : Nat) (x : PV) (lv : Value) (lm : Option Nat) (locs : List (List UInt8)) (w : World) (e : Ending) (w' : World) : Except (Nat × Nat) Wk3 → Prop
  | .ok c => e = .returned (.int .i64 0) ∧ Ad B a x (c.part : Nat) lv lm (c.n : Nat) locs c.regs w' ∧ Kq B a w w'
  | .error y => e = .returned (.int .i64 (y.1 : Nat)) ∧ AdE a y.2 w' ∧ Kq B a w w'
theorem blk_ok {F : Nat} {args : Array Value} {B a : Nat} {x : PV} {lv : Value} {lm : Option Nat} {locs : List (List UInt8)} {w : World} {r : Except (Nat × Nat) Wk3} {c : Wk3} (h : Calls Try.prog F args w (fun e w' => BlkTo B a x lv lm locs w e w' r)) (hr : r = .ok c) : Calls Try.prog F args w (fun e w' => e = .returned (.int .i64 0) ∧ Ad B a x (c.part : Nat) lv lm (c.n : Nat) locs c.regs w' ∧ Kq B a w w') := by
  subst hr
  exact h
theorem blk_err {F : Nat} {args : Array Value} {B a : Nat} {x : PV} {lv : Value} {lm : Option Nat} {locs : List (List UInt8)} {w : World} {r : Except (Nat × Nat) Wk3} {y : Nat × Nat} (h : Calls Try.prog F args w (fun e w' => BlkTo B a x lv lm locs w e w' r)) (hr : r = .error y) : Calls Try.prog F args w (fun e w' => e = .returned (.int .i64 (y.1 : Nat)) ∧ AdE a y.2 w' ∧ Kq B a w w') := by
  subst hr
  exact h
theorem blk_some {B a : Nat} {x : PV} {lv : Value} {lm : Option Nat} {locs : List (List UInt8)} {w w' : World} {r : Except (Nat × Nat) Wk3} {n p : Nat} {e : Ending} (hr : r = .error (n, p)) (he : e = .returned (.int .i64 (n : Nat))) (h : AdE a p w') (hk : Kq B a w w') : BlkTo B a x lv lm locs w e w' r := by
  subst hr
  exact ⟨he, h, hk⟩
theorem blk_none {B a : Nat} {x : PV} {lv : Value} {lm : Option Nat} {locs : List (List UInt8)} {w w' : World} {r : Except (Nat × Nat) Wk3} {c : Wk3} (hr : r = .ok c) (h : Ad B a x (c.part : Nat) lv lm (c.n : Nat) locs c.regs w') (hk : Kq B a w w') : BlkTo B a x lv lm locs w (.returned (.int .i64 0)) w' r := by
  subst hr
  exact ⟨rfl, h, hk⟩

set_option maxHeartbeats 25600000 in
theorem ckblock_any {B a : Nat} {x : PV} {lv : Value} {lm : Option Nat} {locs : List (List UInt8)} : ∀ (N : Nat) (l : List ST), sizeSs l < N → ∀ (ifs : Nat) (c0 : Wk3) (al : Option Addr) (cl : Nat) (w : World), Ad B a x (c0.part : Nat) lv lm (c0.n : Nat) locs c0.regs w → RowS (fun k => k < B ∧ k ≠ a) w al l → ifs ≤ 10 → l.length ≤ maxLen → cntL l ≤ 100000 → c0.part + cntL l ≤ 1000000 → c0.n + cntL l ≤ 1000000 → c0.regs.length + cntL l ≤ 1000000 → wfSs l → ∀ z : Int, z = (ifs : Nat) →
    Calls Try.prog 43 #[.pointer (some ⟨a, 0, none⟩), .slice al l.length cl, .int .i64 z] w (fun e w' => BlkTo B a x lv lm locs w e w' (blkL x.vals locs ifs l c0))
  | 0, l, hN, _, _, _, _, _, _, _, _, _, _, _, _, _, _, _, _ => by omega
  | N + 1, l, hN, ifs, c0, al, cl, w, had, hrow, hifs, hm, hcnt, hcp, hcn, hcr, hwf, z, hz => by
    subst hz
    have IH := Lib.hid (ckblock_any (B := B) (a := a) (x := x) (lv := lv) (lm := lm) (locs := locs) N)
    have HSZ := Lib.hid (show ∀ i e, l[i]? = some e → ST.size e ≤ N from fun i e he => by
      have h1 := sizes_mem l i e he
      omega)
    have HAD0 := Lib.hid had
    have HR := Lib.hid hrow
    have HWF := Lib.hid hwf
    have hcl := P.len_cnt l
    unfold maxLen at hm
    clear had hrow hN hwf
    go_enter Try.func43, Try.ntmps43
    go_wp2_with fail
    go_loopw [14] (fun i wr => ∃ (j : Nat) (c : Wk3), i = .int .i64 (j : Nat) ∧ j ≤ l.length ∧ blkL x.vals locs ifs (l.take j) c0 = .ok c ∧ Ad B a x (c.part : Nat) lv lm (c.n : Nat) locs c.regs wr ∧ Kq B a w wr) (fun i _ => l.length - (intOf i).toNat)
    case atStart => exact ⟨0, c0, rfl, Nat.zero_le _, by rw [List.take_zero, P.blkL], HAD0.out, Kq.refl _ _ _⟩
    case round =>
      obtain ⟨j, c, rfl, hj, hblk, had, hkq⟩ := hrel
      have HBLK := Lib.hid hblk
      have HADr := Lib.hid had
      have HKr := Lib.hid hkq
      have hszr := hkq.size
      have hab : a < B ∧ B ≤ wr.heap.size := by
        obtain ⟨_, _, _, _, _, _, h5, h6⟩ := had
        exact ⟨h5, h6⟩
      obtain ⟨habl, hBs⟩ := hab
      obtain ⟨i1, i2, i3⟩ := P.blkL_inv _ _ _ _ hblk
      clear hblk had hkq
      by_cases hlt : j < l.length
      · obtain ⟨ga, oa, rfl, hga, hs⟩ : ∃ ga oa, al = some ⟨ga, oa, none⟩ ∧ (ga < B ∧ ga ≠ a) ∧ LSs (fun k => k < B ∧ k ≠ a) wr ga oa l := by
          rcases HR.out.keep (Q_keep HKr.out) with h0 | h0
          · rw [h0] at hlt
            simp at hlt
          · exact h0
        obtain ⟨s, k0, k1, k2, k3, k4, k5, k6, hs0, c00, c1, c2, c3, c4, c5, c6, hls⟩ := LSs.at l hs j hlt
        have hls0 := hls
        have hcm := cntL_mem hs0
        have hszs := HSZ.out j s hs0
        have hwfs := wfSs_mem HWF.out s (List.mem_of_getElem? hs0)
        have hwf0 := hwfs
        have HSTEP := Lib.hid (P.blkL_step hs0 HBLK.out)
        have hrl : c.regs.length ≤ c0.regs.length + cntL (l.take j) := by rw [i3]; exact P.regsL_len (l.take j) c0.regs
        obtain ⟨kd, md, rg, lc, ar, th, el⟩ := s
        unfold LS at hls
        obtain ⟨aa, ca', at', ct, ae, ce, hv, m1, m2, m3, l1, l2, l3⟩ := hls
        injection hv with hv
        injection hv with hv
        injection hv with e0 hv
        injection hv with e1 hv
        injection hv with e2 hv
        injection hv with e3 hv
        injection hv with e4 hv
        injection hv with e5 hv
        injection hv with e6 hv
        subst e0 e1 e2 e3 e4 e5 e6
        clear hv i3
        unfold wfS at hwfs
        obtain ⟨_, _, hrg, _, _, hwth, hwel⟩ := hwfs
        unfold ST.size at hszs
        have hcs : cntS (.mk kd md rg lc ar th el) = 1 + cntL th + cntL el := by rw [P.cntS]
        have hq1 : c.part + (1 + cntL th + cntL el) ≤ 1000000 := by omega
        have hq2 : c.n + (1 + cntL th + cntL el) ≤ 1000000 := by omega
        have hq3 : c.regs.length + (1 + cntL th + cntL el) ≤ 1000000 := by omega
        have hq4 : 1 + cntL th + cntL el ≤ 100000 := by omega
        have hq5 : cntS (.mk kd md rg lc ar th el) ≤ 100000 := by omega
        clear i1 i2 hcs hrl hcm hcp hcn hcr
        have HRG := Lib.hid hrg
        have HWT := Lib.hid hwth
        have HWE := Lib.hid hwel
        have HLT0 := Lib.hid (show RowS (fun k => k < B ∧ k ≠ a) wr at' th from l2)
        have HLE0 := Lib.hid (show RowS (fun k => k < B ∧ k ≠ a) wr ae el from l3)
        have HM2 := Lib.hid m2
        have HM3 := Lib.hid m3
        have d1 : (0 : Int) ≤ (j : Int) := by omega
        have d2 : (j : Int) < (l.length : Int) := by omega
        have d3 : decide ((j : Int) < (l.length : Int)) = true := decide_eq_true (by omega)
        have d4 : decide (j < l.length) = true := decide_eq_true (by omega)
        have hbx := one_belowN wr (.cells #[.int .i64 kd, .int .i64 md, .string (bs rg), .string (bs lc), .slice aa ar.length ca', .slice at' th.length ct, .slice ae el.length ce] 45)
        have HBX0 := Lib.hid (Blk.new wr 45 #[.int .i64 kd, .int .i64 md, .string (bs rg), .string (bs lc), .slice aa ar.length ca', .slice at' th.length ct, .slice ae el.length ce])
        have hAd1 := HADr.out.below hbx
        have HAd2 := Lib.hid ((hAd1.part ((c.part : Int) + 1) (part' := ((c.part + 1 : Nat) : Int)) (by omega)).st ((c.n : Int) + 1) (st' := ((c.n + 1 : Nat) : Int)) (by omega))
        have hgb : wr.heap.size ≠ a := by omega
        have HK2 := Lib.hid (((Kq.below (B := B) (g := a) hbx).set 10 (.int .i64 ((c.part : Int) + 1))).set 15 (.int .i64 ((c.n : Int) + 1)))
        have HBX2 := Lib.hid ((HBX0.out.far (p := ⟨a, 10, none⟩) hgb (.int .i64 ((c.part : Int) + 1))).far (p := ⟨a, 15, none⟩) hgb (.int .i64 ((c.n : Int) + 1)))
        obtain ⟨rv, rm, g1, _⟩ := hAd1
        have a10 : (wr.alloc (.cells #[.int .i64 kd, .int .i64 md, .string (bs rg), .string (bs lc), .slice aa ar.length ca', .slice at' th.length ct, .slice ae el.length ce] 45)).cell? ⟨a, 10, none⟩ = some (.int .i64 (c.part : Nat)) := g1.cell 10
        have a15 : (wr.alloc (.cells #[.int .i64 kd, .int .i64 md, .string (bs rg), .string (bs lc), .slice aa ar.length ca', .slice at' th.length ct, .slice ae el.length ce] 45)).cell? ⟨a, 15, none⟩ = some (.int .i64 (c.n : Nat)) := g1.cell 15
        have f10 := g1.free 10
        have f15 := g1.free 15
        have HLS0 := Lib.hid hls0
        have HWF0 := Lib.hid hwf0
        clear hs hs0 l1 l2 l3 m1 m2 m3 hrg hwth hwel hbx g1 hls0 hwf0 HADr
        go_upto_region 6 with (fail)
        have HLS2 := Lib.hid (LS.mono (fun _ _ _ => trivial) _ (LS.keep (Q_keep HK2.out) _ HLS0.out))
        have HLT2 := Lib.hid (HLT0.out.keep (Q_keep HK2.out))
        have HLE2 := Lib.hid (HLE0.out.keep (Q_keep HK2.out))
        have HKW2 := Lib.hid (HKr.out.trans HK2.out)
        have hs2 := HK2.out.size
        have hx1 := HBX2.out.lt
        have HST := Lib.hid (ckstmt_any (n := c.n + 1) HAd2.out (by omega) (by omega) ifs (by omega) (ifs : Nat) rfl (.mk kd md rg lc ar th el) (by omega) _ HLS2.out HWF0.out)
        have hne9 : 9 ≠ 45 := by decide
        have HNE9 := Lib.hid hne9
        clear a10 a15 f10 f15 HLS0 HLT0 HLE0 HBX0 HKr HK2 hne9 HLS2 c00 c1 c2 c3 c4 c5 c6
        generalize hw2 : ((wr.alloc (.cells #[.int .i64 kd, .int .i64 md, .string (bs rg), .string (bs lc), .slice aa ar.length ca', .slice at' th.length ct, .slice ae el.length ce] 45)).setCell ⟨a, 10, none⟩ (.int .i64 ((c.part : Int) + 1))).setCell ⟨a, 15, none⟩ (.int .i64 ((c.n : Int) + 1)) = w2 at *
        generalize hbx : wr.heap.size = bx at *
        clear hw2 hbx
        obtain ⟨q0, q1, q2, q3, q4, q5, q6⟩ := seven_cellsK HBX2.out
        generalize hSE : stE x.vals locs c.regs (c.n + 1) ifs (.mk kd md rg lc ar th el) = SE at *
        have HSE0 := Lib.hid hSE
        clear hSE
        by_cases hse : SE = 0
        · have HST0 := Lib.hid (er_zero HST.out hse)
          have HSE := Lib.hid (HSE0.out.trans hse)
          have hfew := P.stE_few HSE.out
          clear hse HST HSE0
          go_wp2_with fail
          with_reducible refine HST0.out.mono ?_
          rintro e w3 ⟨rfl, hb3⟩
          have HAD3 := Lib.hid (HAd2.out.below hb3)
          have HBX3 := Lib.hid (HBX2.out.live' hb3)
          have HLT3 := Lib.hid (HLT2.out.keep (Keeps.below hb3 (Nat.le_refl _)))
          have HLE3 := Lib.hid (HLE2.out.keep (Keeps.below hb3 (Nat.le_refl _)))
          have HKQ3 := Lib.hid (HKW2.out.trans (Kq.below hb3))
          have hs3 := hb3.size
          clear hb3 q0 q1 q2 q3 q4 q5 q6 HST0 HAd2 HBX2 HLT2 HLE2 HKW2
          obtain ⟨q0, q1, q2, q3, q4, q5, q6⟩ := seven_cellsK HBX3.out
          go_wp2_with fail
          with_reducible refine (sets_any kd w3).mono ?_
          rintro e w3' ⟨rfl, rfl⟩
          cases hset : setsB kd
          · have HSET := Lib.hid hset
            clear hset q0 q1 q2 q3 q4 q5 q6
            have HAD := HAD3
            have HBX := HBX3
            have HLT := HLT3
            have HLE := HLE3
            have HKQ := HKQ3
            generalize hrs1 : c.regs = rs1 at HAD hq3
            have HRS := Lib.hid (show (if setsB kd = true then wth c.regs rg else c.regs) = rs1 by rw [HSET.out]; exact hrs1)
            clear hrs1
            have hq6 : rs1.length + (cntL th + cntL el) ≤ 1000000 := by omega
            clear HAD3 HBX3 HLT3 HLE3 HKQ3
            have HR1 := Lib.hid (show blkL x.vals locs (ifs + 1) th ⟨c.part + 1, rs1, c.n + 1⟩ = blkL x.vals locs (ifs + 1) th ⟨c.part + 1, if setsB kd = true then wth c.regs rg else c.regs, c.n + 1⟩ by rw [HRS.out])
            have HA := Lib.hid (IH.out th (by omega) (ifs + 1) ⟨c.part + 1, rs1, c.n + 1⟩ at' ct _ HAD.out HLT.out (by omega) HM2.out (by omega) (by simp only; omega) (by simp only; omega) (by simp only; omega) HWT.out ((ifs : Int) + 1) (by omega))
            obtain ⟨q0, q1, q2, q3, q4, q5, q6⟩ := seven_cellsK HBX.out
            generalize hth : blkL x.vals locs (ifs + 1) th ⟨c.part + 1, rs1, c.n + 1⟩ = R1 at *
            have HTH := Lib.hid hth
            clear hth
            cases R1 with
            | error y =>
              obtain ⟨y1, y2⟩ := y
              have HER := Lib.hid (HSTEP.out.2 _ (P.blkS_th HSE.out HR1.out.symm))
              obtain ⟨f1, f2, f3⟩ := er_flags (P.blkL_err _ _ _ _ HTH.out)
              have HA1 := Lib.hid (blk_err HA.out rfl)
              clear HA
              go_wp2_with fail
              with_reducible refine HA1.out.mono ?_
              rintro e w5 ⟨rfl, hade, hk5⟩
              have HADE := Lib.hid hade
              have HK5 := Lib.hid (HKQ.out.trans hk5)
              clear hade hk5 q0 q1 q2 q3 q4 q5 q6
              go_wp2_with fail
              go_ret
              exact blk_some HER.out rfl HADE.out HK5.out
            | ok c5 =>
              obtain ⟨i1, i2, i3⟩ := P.blkL_inv _ _ _ _ HTH.out
              simp only at i1 i2 i3
              have hl5 : c5.regs.length ≤ rs1.length + cntL th := by rw [i3]; exact P.regsL_len th rs1
              have hp5 : c5.part + cntL el ≤ 1000000 := by omega
              have hn5 : c5.n + cntL el ≤ 1000000 := by omega
              have hr5 : c5.regs.length + cntL el ≤ 1000000 := by omega
              clear i1 i2
              have HA1 := Lib.hid (blk_ok HA.out rfl)
              clear HA i3
              go_wp2_with fail
              with_reducible refine HA1.out.mono ?_
              rintro e w5 ⟨rfl, had5, hk5⟩
              have HAD5 := Lib.hid had5
              have HBX5 := Lib.hid (hk5.keep bx _ _ hgb HNE9.out HBX.out)
              have HLE5 := Lib.hid (HLE.out.keep (Q_keep hk5))
              have HKQ5 := Lib.hid (HKQ.out.trans hk5)
              have hs5 := hk5.size
              clear had5 hk5 q0 q1 q2 q3 q4 q5 q6
              obtain ⟨q0, q1, q2, q3, q4, q5, q6⟩ := seven_cellsK HBX5.out
              have HA := Lib.hid (IH.out el (by omega) (ifs + 1) c5 ae ce _ HAD5.out HLE5.out (by omega) HM3.out (by omega) (by omega) (by omega) (by omega) HWE.out ((ifs : Int) + 1) (by omega))
              generalize hel : blkL x.vals locs (ifs + 1) el c5 = R2 at *
              have HEL := Lib.hid hel
              clear hel
              cases R2 with
              | error y =>
                obtain ⟨y1, y2⟩ := y
                have HER := Lib.hid (HSTEP.out.2 _ ((P.blkS_el HSE.out (HR1.out.symm)).trans HEL.out))
                obtain ⟨f1, f2, f3⟩ := er_flags (P.blkL_err _ _ _ _ HEL.out)
                have HA2 := Lib.hid (blk_err HA.out rfl)
                clear HA
                go_wp2_with fail
                with_reducible refine HA2.out.mono ?_
                rintro e w6 ⟨rfl, hade, hk6⟩
                have HADE := Lib.hid hade
                have HK6 := Lib.hid (HKQ5.out.trans hk6)
                clear hade hk6 q0 q1 q2 q3 q4 q5 q6
                go_wp2_with fail
                go_ret
                exact blk_some HER.out rfl HADE.out HK6.out
              | ok c6 =>
                have HOK := Lib.hid (HSTEP.out.1 _ ((P.blkS_el HSE.out (HR1.out.symm)).trans HEL.out))
                have HA2 := Lib.hid (blk_ok HA.out rfl)
                clear HA
                go_wp2_with fail
                with_reducible refine HA2.out.mono ?_
                rintro e w6 ⟨rfl, had6, hk6⟩
                have HAD6 := Lib.hid had6
                have HK6 := Lib.hid (HKQ5.out.trans hk6)
                clear had6 hk6 q0 q1 q2 q3 q4 q5 q6
                go_wp2_with fail
                go_roundw
                case rel => exact ⟨j + 1, c6, by go_num, by omega, HOK.out, HAD6.out, HK6.out⟩
                case measure => simp [intOf]; omega
          · have HSET := Lib.hid hset
            clear hset
            have hwl := P.wthLen c.regs rg
            have hq6 : (wth c.regs rg).length + (cntL th + cntL el) ≤ 1000000 := by omega
            clear hwl
            have hbD : Below w3.heap.size w3 w3.drew := (Below.refl _ _).drew
            have HADD := Lib.hid (add_at (HAD3.out.below hbD).na (show 13 + 1 < 16 by decide) (by decide) (show B ≤ w3.drew.heap.size from by show B ≤ w3.heap.size; omega) (by omega) rg HRG.out)
            have HK0 := Lib.hid (show w3.cell? ⟨bx, 2, none⟩ = some (.string (bs rg)) from HBX3.out.cell 2)
            have HKD := Lib.hid (show w3.drew.cell? ⟨bx, 2, none⟩ = some (.string (bs rg)) from HBX3.out.cell 2)
            have HX := Lib.hid (show ∀ w', Kq B a w3.drew w' → w'.cell? ⟨bx, 2, none⟩ = some (.string (bs rg)) from fun w' hk => (hk.keep bx _ _ hgb HNE9.out (HBX3.out.live' hbD)).cell 2)
            have HBD := Lib.hid hbD
            clear hbD
            go_wp2_with fail
            go_region_held3 (fun w' => w'.cell? ⟨bx, 2, none⟩ = some (.string (bs rg)))
              (first
                | with_reducible exact HK0.out
                | with_reducible exact HKD.out
                | with_reducible assumption
                | go_keep)
              (first
                | (go_at_call 42; (with_reducible refine HADD.out.mono ?_); rintro e w7 ⟨rfl, hna7, hk7⟩; have hS7 := HX.out w7 hk7; have HNA7 := Lib.hid hna7; have HK7 := Lib.hid hk7; clear hna7 hk7))
            all_goals
              have HAD := Lib.hid ((HAD3.out.below HBD.out).ofNa HNA7.out HK7.out)
              have HBX := Lib.hid (HK7.out.keep bx _ _ hgb HNE9.out (HBX3.out.live' HBD.out))
              have HLT := Lib.hid ((HLT3.out.keep (Keeps.below HBD.out (Nat.le_refl _))).keep (Q_keep HK7.out))
              have HLE := Lib.hid ((HLE3.out.keep (Keeps.below HBD.out (Nat.le_refl _))).keep (Q_keep HK7.out))
              have HKQ := Lib.hid ((HKQ3.out.trans (Kq.below HBD.out)).trans HK7.out)
              have hs7 := HK7.out.size
              have hs7' : B ≤ w7.heap.size := by
                have : w3.drew.heap.size = w3.heap.size := rfl
                omega
              clear q0 q1 q2 q3 q4 q5 q6 hS7 HAD3 HBX3 HLT3 HLE3 HKQ3 HNA7 HK7 HADD HK0 HKD HX
              generalize hrs1 : wth c.regs rg = rs1 at HAD hq6
              have HRS := Lib.hid (show (if setsB kd = true then wth c.regs rg else c.regs) = rs1 by rw [HSET.out]; exact hrs1)
              clear hrs1
              have HR1 := Lib.hid (show blkL x.vals locs (ifs + 1) th ⟨c.part + 1, rs1, c.n + 1⟩ = blkL x.vals locs (ifs + 1) th ⟨c.part + 1, if setsB kd = true then wth c.regs rg else c.regs, c.n + 1⟩ by rw [HRS.out])
              have HA := Lib.hid (IH.out th (by omega) (ifs + 1) ⟨c.part + 1, rs1, c.n + 1⟩ at' ct _ HAD.out HLT.out (by omega) HM2.out (by omega) (by simp only; omega) (by simp only; omega) (by simp only; omega) HWT.out ((ifs : Int) + 1) (by omega))
              obtain ⟨q0, q1, q2, q3, q4, q5, q6⟩ := seven_cellsK HBX.out
              generalize hth : blkL x.vals locs (ifs + 1) th ⟨c.part + 1, rs1, c.n + 1⟩ = R1 at *
              have HTH := Lib.hid hth
              clear hth
              cases R1 with
              | error y =>
                obtain ⟨y1, y2⟩ := y
                have HER := Lib.hid (HSTEP.out.2 _ (P.blkS_th HSE.out HR1.out.symm))
                obtain ⟨f1, f2, f3⟩ := er_flags (P.blkL_err _ _ _ _ HTH.out)
                have HA1 := Lib.hid (blk_err HA.out rfl)
                clear HA
                go_wp2_with fail
                with_reducible refine HA1.out.mono ?_
                rintro e w5 ⟨rfl, hade, hk5⟩
                have HADE := Lib.hid hade
                have HK5 := Lib.hid (HKQ.out.trans hk5)
                clear hade hk5 q0 q1 q2 q3 q4 q5 q6
                go_wp2_with fail
                go_ret
                exact blk_some HER.out rfl HADE.out HK5.out
              | ok c5 =>
                obtain ⟨i1, i2, i3⟩ := P.blkL_inv _ _ _ _ HTH.out
                simp only at i1 i2 i3
                have hl5 : c5.regs.length ≤ rs1.length + cntL th := by rw [i3]; exact P.regsL_len th rs1
                have hp5 : c5.part + cntL el ≤ 1000000 := by omega
                have hn5 : c5.n + cntL el ≤ 1000000 := by omega
                have hr5 : c5.regs.length + cntL el ≤ 1000000 := by omega
                clear i1 i2
                have HA1 := Lib.hid (blk_ok HA.out rfl)
                clear HA i3
                go_wp2_with fail
                with_reducible refine HA1.out.mono ?_
                rintro e w5 ⟨rfl, had5, hk5⟩
                have HAD5 := Lib.hid had5
                have HBX5 := Lib.hid (hk5.keep bx _ _ hgb HNE9.out HBX.out)
                have HLE5 := Lib.hid (HLE.out.keep (Q_keep hk5))
                have HKQ5 := Lib.hid (HKQ.out.trans hk5)
                have hs5 := hk5.size
                clear had5 hk5 q0 q1 q2 q3 q4 q5 q6
                obtain ⟨q0, q1, q2, q3, q4, q5, q6⟩ := seven_cellsK HBX5.out
                have HA := Lib.hid (IH.out el (by omega) (ifs + 1) c5 ae ce _ HAD5.out HLE5.out (by omega) HM3.out (by omega) (by omega) (by omega) (by omega) HWE.out ((ifs : Int) + 1) (by omega))
                generalize hel : blkL x.vals locs (ifs + 1) el c5 = R2 at *
                have HEL := Lib.hid hel
                clear hel
                cases R2 with
                | error y =>
                  obtain ⟨y1, y2⟩ := y
                  have HER := Lib.hid (HSTEP.out.2 _ ((P.blkS_el HSE.out (HR1.out.symm)).trans HEL.out))
                  obtain ⟨f1, f2, f3⟩ := er_flags (P.blkL_err _ _ _ _ HEL.out)
                  have HA2 := Lib.hid (blk_err HA.out rfl)
                  clear HA
                  go_wp2_with fail
                  with_reducible refine HA2.out.mono ?_
                  rintro e w6 ⟨rfl, hade, hk6⟩
                  have HADE := Lib.hid hade
                  have HK6 := Lib.hid (HKQ5.out.trans hk6)
                  clear hade hk6 q0 q1 q2 q3 q4 q5 q6
                  go_wp2_with fail
                  go_ret
                  exact blk_some HER.out rfl HADE.out HK6.out
                | ok c6 =>
                  have HOK := Lib.hid (HSTEP.out.1 _ ((P.blkS_el HSE.out (HR1.out.symm)).trans HEL.out))
                  have HA2 := Lib.hid (blk_ok HA.out rfl)
                  clear HA
                  go_wp2_with fail
                  with_reducible refine HA2.out.mono ?_
                  rintro e w6 ⟨rfl, had6, hk6⟩
                  have HAD6 := Lib.hid had6
                  have HK6 := Lib.hid (HKQ5.out.trans hk6)
                  clear had6 hk6 q0 q1 q2 q3 q4 q5 q6
                  go_wp2_with fail
                  go_roundw
                  case rel => exact ⟨j + 1, c6, by go_num, by omega, HOK.out, HAD6.out, HK6.out⟩
                  case measure => simp [intOf]; omega
        · obtain ⟨f1, f2, f3⟩ := er_flags hse
          have HER := Lib.hid (HSTEP.out.2 (SE, c.part + 1) (by rw [P.blkS_no (by rw [HSE0.out]; exact hse), HSE0.out]))
          have HST1 := Lib.hid (er_some HST.out)
          clear hse HST
          go_wp2_with fail
          with_reducible refine HST1.out.mono ?_
          rintro e w3 ⟨rfl, hb3⟩
          have HADE := Lib.hid ((HAd2.out.below hb3).e rfl)
          have HK3 := Lib.hid (HKW2.out.trans (Kq.below hb3))
          clear hb3 q0 q1 q2 q3 q4 q5 q6
          go_wp2_with fail
          go_ret
          exact blk_some HER.out rfl HADE.out HK3.out
      · obtain rfl : j = l.length := by omega
        have HTL := Lib.hid (List.take_length (l := l))
        have HOKE := Lib.hid (show blkL x.vals locs ifs l c0 = .ok c by have h := HBLK.out; rw [HTL.out] at h; exact h)
        clear hlt
        go_wp2_with fail
        go_ret
        exact blk_none HOKE.out HADr.out HKr.out
end Go.Proofs.Ytlgnagmmljdkiab.Lx
