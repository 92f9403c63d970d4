/-
  A cell and the head as an audit asks them, as contracts.
-/
import Derived.Test.YtlgnagmmljdkiabCKD
import Derived.Test.YtlgnagmmljdkiabCKB
import Derived.Deep.QuietTactic
import Derived.BigQuiet
import Derived.Test.YtlgnagmmljdkiabCKA
import Derived.Deep.RegionHeld3
import Derived.IntWalk
import Derived.Test.YtlgnagmmljdkiabOX
namespace Go.Proofs.Ytlgnagmmljdkiab.Lx
open Go.RowKit
open P (wth EX CO ST PG setsB regsL nodeE nodeC eachX eachXs eachC eachCs withinX withinC dpX dpXs dpC dpCs andE regE locE cellE headE)
set_option maxRecDepth 100000
set_option linter.unusedVariables false
set_option linter.unusedSimpArgs false

theorem quietK {P : Program} {f : FuncId} {args : Array Value} {w : World} {n : Nat} {v : Value}
    (h : Calls P f args (w.drewN n) fun e w' => e = .returned v ∧ w.drewN n = w') : Calls P f args (w.drewN n) fun e w'' => e = .returned v ∧ ∃ m, w'' = w.drewN m :=
  h.mono fun _ _ ⟨he, hm⟩ => ⟨he, n, hm.symm⟩

set_option maxHeartbeats 12800000 in
theorem ckcell_any {B a : Nat} {x : PV} {part : Int} {lv : Value} {lm : Option Nat} {st : Int} {locs regs : List (List UInt8)} {w : World} (h : Ad B a x part lv lm st locs regs w) (c : List UInt8 × Int) (hs : c.1.length ≤ maxLen) :
    Calls Try.prog 41 #[.pointer (some ⟨a, 0, none⟩), .agg #[.string (bs c.1), .int .i64 c.2]] w (ErTo (cellE x.vals locs c) w) := by
  obtain ⟨s, n⟩ := c
  unfold P.cellE
  simp only at hs ⊢
  have hsz : (bs s).size ≤ maxLen := by rw [bs_size]; exact hs
  have hnm := fun w => name_any (bs s) w hsz
  rw [by_bs] at hnm
  have HL := Lib.hid (fun w' (hb : Below w.heap.size w w') => (h.below hb).hasL s hs)
  have HV := Lib.hid (fun w' (hb : Below w.heap.size w w') => value_any (h.below hb) n)
  have HB := Lib.hid (one_belowN w (.cells #[.string (bs s), .int .i64 n] 39))
  have HBX := Lib.hid (Blk.new w 39 #[.string (bs s), .int .i64 n])
  clear h hsz hs
  cases hn : nameB s
  · rw [hn] at hnm
    have HN := Lib.hid hnm
    rw [if_pos (.inl rfl)]
    clear hn hnm HL HV
    generalize bs s = S at *
    go_enter Try.func41, Try.ntmps41
    go_wp2_with fail
    generalize hW : w.alloc (.cells #[.string S, .int .i64 n] 39) = W at *
    clear hW
    have hq0 : W.cell? ⟨w.heap.size, 0, none⟩ = some (.string S) := HBX.out.cell 0
    go_quiet ((go_at_call 39; exact quietK (HN.out _)))
    go_wp2_with fail
    go_ret
    exact ⟨rfl, HB.out.trans ((bel_drewNK _ _).mono HB.out.size)⟩
  · rw [hn] at hnm
    have HN := Lib.hid hnm
    clear hn hnm
    by_cases hl : s ∈ locs
    · rw [if_pos (.inr hl)]
      rw [decide_eq_true hl] at HL
      clear hl HV
      generalize bs s = S at *
      go_enter Try.func41, Try.ntmps41
      go_wp2_with fail
      generalize hW : w.alloc (.cells #[.string S, .int .i64 n] 39) = W at *
      clear hW
      have hbD : Below w.heap.size w W.drew := HB.out.drew
      have HK0 := Lib.hid (show W.cell? ⟨w.heap.size, 0, none⟩ = some (.string S) from HBX.out.cell 0)
      have HKD := Lib.hid (show W.drew.cell? ⟨w.heap.size, 0, none⟩ = some (.string S) from HBX.out.cell 0)
      have HX := Lib.hid (show ∀ w', Below W.heap.size W w' → w'.cell? ⟨w.heap.size, 0, none⟩ = some (.string S) from fun w' hb => (HBX.out.live' hb).cell 0)
      have hs1 := HB.out.size
      go_region_held3 (fun w' => w'.cell? ⟨w.heap.size, 0, none⟩ = some (.string S))
        (first
          | with_reducible exact HK0.out
          | with_reducible exact HKD.out
          | with_reducible assumption
          | go_keep)
        (first
          | (go_at_call 39; (with_reducible refine (HN.out _).mono ?_); rintro e w6 ⟨rfl, rfl⟩)
          | (go_at_call 57; (with_reducible refine (HL.out _ (by first | assumption | exact HB.out)).mono ?_); rintro e w7 ⟨rfl, hb7w⟩; have hb7 := bel_step hb7w; have hS7 := HX.out w7 hb7))
      all_goals
        go_wp2_with fail
        go_ret
        exact ⟨rfl, HB.out.trans (hb7.mono HB.out.size)⟩
    · rw [if_neg (by rintro (h | h); cases h; exact hl h)]
      rw [decide_eq_false hl] at HL
      have HH := Lib.hid (show (if 0 ≤ n ∧ n < x.vals then 0 else 1) = (if decide (0 ≤ n ∧ n < x.vals) = true then 0 else 1) by simp)
      rw [HH.out]
      clear hl HH
      generalize bs s = S at *
      generalize decide (0 ≤ n ∧ n < x.vals) = bb at *
      cases bb
      all_goals
        go_enter Try.func41, Try.ntmps41
        go_wp2_with fail
        generalize hW : w.alloc (.cells #[.string S, .int .i64 n] 39) = W at *
        clear hW
        have hbD : Below w.heap.size w W.drew := HB.out.drew
        have HK0 := Lib.hid (show W.cell? ⟨w.heap.size, 0, none⟩ = some (.string S) from HBX.out.cell 0)
        have HKD := Lib.hid (show W.drew.cell? ⟨w.heap.size, 0, none⟩ = some (.string S) from HBX.out.cell 0)
        have HX := Lib.hid (show ∀ w', Below W.heap.size W w' → w'.cell? ⟨w.heap.size, 0, none⟩ = some (.string S) from fun w' hb => (HBX.out.live' hb).cell 0)
        have hs1 := HB.out.size
        go_region_held3 (fun w' => w'.cell? ⟨w.heap.size, 0, none⟩ = some (.string S))
          (first
            | with_reducible exact HK0.out
            | with_reducible exact HKD.out
            | with_reducible assumption
            | go_keep)
          (first
            | (go_at_call 39; (with_reducible refine (HN.out _).mono ?_); rintro e w6 ⟨rfl, rfl⟩)
            | (go_at_call 57; (with_reducible refine (HL.out _ (by first | assumption | exact HB.out)).mono ?_); rintro e w7 ⟨rfl, hb7w⟩; have hb7 := bel_step hb7w; have hS7 := HX.out w7 hb7))
        all_goals
          have HB7 := Lib.hid (HB.out.trans (hb7.mono HB.out.size))
          have hn7 : w7.cell? ⟨w.heap.size, 1, none⟩ = some (.int .i64 n) := (HBX.out.live' hb7).cell 1
          have HV7 := Lib.hid (HV.out w7 HB7.out)
          clear hS7 hb7
          go_wp2_with fail
          with_reducible refine HV7.out.mono ?_
          rintro e w8 ⟨rfl, rfl⟩
          go_wp2_with fail
          with_reducible refine (unless_any _ 1 _).mono ?_
          rintro e w9 ⟨rfl, rfl⟩
          go_wp2_with fail
          go_ret
          exact ⟨rfl, HB7.out⟩

set_option maxHeartbeats 12800000 in
theorem ckhead_any {B a : Nat} {x : PV} {part : Int} {lv : Value} {lm : Option Nat} {st : Int} {locs regs : List (List UInt8)} {w : World} (h : Ad B a x part lv lm st locs regs w) (p : PG) (hnm : x.nm = bs p.name) (hl : p.name.length ≤ maxLen) (hv : x.vals = p.vals) {ia ta : Option Addr} {ic tc : Nat} (hi : x.vi = .slice ia p.init.length ic) (ht : x.vt = .slice ta p.threads.length tc) (hil : p.init.length ≤ maxLen) (htl : p.threads.length ≤ maxLen) :
    Calls Try.prog 26 #[.pointer (some ⟨a, 0, none⟩)] w (ErTo (headE p) w) := by
  obtain ⟨nm, vals, vi, vt, ask, o', t', s', n', ka', km', kc'⟩ := x
  simp only at hnm hv hi ht
  subst hnm hv hi ht
  have hsz : (bs p.name).size ≤ maxLen := by rw [bs_size]; exact hl
  have hnm := fun w => name_any (bs p.name) w hsz
  rw [by_bs] at hnm
  obtain ⟨rv, rm, g1, _⟩ := h
  unfold maxLen at hil htl
  unfold P.headE
  clear hl hsz
  generalize bs p.name = NM at *
  generalize hIL : p.init.length = IL at *
  generalize hTL : p.threads.length = TL at *
  generalize p.vals = vals at *
  clear hIL hTL
  have a0' : w.cell? ⟨a, 0, none⟩ = some (.string NM) := g1.cell 0
  have a1' : w.cell? ⟨a, 1, none⟩ = some (.int .i64 vals) := g1.cell 1
  have a2' : w.cell? ⟨a, 2, none⟩ = some (.slice ia IL ic) := g1.cell 2
  have a3' : w.cell? ⟨a, 3, none⟩ = some (.slice ta TL tc) := g1.cell 3
  have a4' : w.cell? ⟨a, 4, none⟩ = some (.int .i64 ask) := g1.cell 4
  have a5' : w.cell? ⟨a, 5, none⟩ = some (.int .i64 o') := g1.cell 5
  have a6' : w.cell? ⟨a, 6, none⟩ = some (.int .i64 t') := g1.cell 6
  have a7' : w.cell? ⟨a, 7, none⟩ = some (.string s') := g1.cell 7
  have a8' : w.cell? ⟨a, 8, none⟩ = some (.int .i64 n') := g1.cell 8
  have a9' : w.cell? ⟨a, 9, none⟩ = some (.slice ka' km' kc') := g1.cell 9
  have hbx := Blk.new w 30 #[.string NM, .int .i64 vals, .slice ia IL ic, .slice ta TL tc, .int .i64 ask, .int .i64 o', .int .i64 t', .string s', .int .i64 n', .slice ka' km' kc']
  have q0' : (w.alloc (.cells #[.string NM, .int .i64 vals, .slice ia IL ic, .slice ta TL tc, .int .i64 ask, .int .i64 o', .int .i64 t', .string s', .int .i64 n', .slice ka' km' kc'] 30)).cell? ⟨w.heap.size, 0, none⟩ = some (.string NM) := hbx.cell 0
  have q1' : (w.alloc (.cells #[.string NM, .int .i64 vals, .slice ia IL ic, .slice ta TL tc, .int .i64 ask, .int .i64 o', .int .i64 t', .string s', .int .i64 n', .slice ka' km' kc'] 30)).cell? ⟨w.heap.size, 1, none⟩ = some (.int .i64 vals) := hbx.cell 1
  have q2' : (w.alloc (.cells #[.string NM, .int .i64 vals, .slice ia IL ic, .slice ta TL tc, .int .i64 ask, .int .i64 o', .int .i64 t', .string s', .int .i64 n', .slice ka' km' kc'] 30)).cell? ⟨w.heap.size, 2, none⟩ = some (.slice ia IL ic) := hbx.cell 2
  have q3' : (w.alloc (.cells #[.string NM, .int .i64 vals, .slice ia IL ic, .slice ta TL tc, .int .i64 ask, .int .i64 o', .int .i64 t', .string s', .int .i64 n', .slice ka' km' kc'] 30)).cell? ⟨w.heap.size, 3, none⟩ = some (.slice ta TL tc) := hbx.cell 3
  have HB := Lib.hid (one_belowN w (.cells #[.string NM, .int .i64 vals, .slice ia IL ic, .slice ta TL tc, .int .i64 ask, .int .i64 o', .int .i64 t', .string s', .int .i64 n', .slice ka' km' kc'] 30))
  clear g1 hbx
  cases hn : nameB p.name
  · rw [hn] at hnm
    have HN := Lib.hid hnm
    rw [if_pos rfl]
    clear hn hnm
    go_enter Try.func26, Try.ntmps26
    go_wp2_with fail
    with_reducible refine (HN.out _).mono ?_
    rintro e w6 ⟨rfl, rfl⟩
    go_wp2_with fail
    go_ret
    exact ⟨rfl, HB.out⟩
  rw [hn] at hnm
  have HN := Lib.hid hnm
  rw [if_neg (by decide)]
  clear hn hnm
  by_cases h1 : vals < 2
  · rw [if_pos (.inl h1)]
    have e1 : decide (vals < 2) = true := decide_eq_true h1
    clear h1
    go_enter Try.func26, Try.ntmps26
    go_wp2_with fail
    with_reducible refine (HN.out _).mono ?_
    rintro e w6 ⟨rfl, rfl⟩
    go_wp2_with fail
    go_ret
    exact ⟨rfl, HB.out⟩
  have e1 : decide (vals < 2) = false := decide_eq_false h1
  by_cases h2 : 4 < vals
  · rw [if_pos (.inr h2)]
    have e2 : decide (4 < vals) = true := decide_eq_true h2
    clear h1 h2
    go_enter Try.func26, Try.ntmps26
    go_wp2_with fail
    with_reducible refine (HN.out _).mono ?_
    rintro e w6 ⟨rfl, rfl⟩
    go_wp2_with fail
    go_ret
    exact ⟨rfl, HB.out⟩
  have e2 : decide (4 < vals) = false := decide_eq_false h2
  rw [if_neg (by rintro (h | h); exact h1 h; exact h2 h)]
  clear h1 h2
  by_cases h3 : 4 < IL
  · rw [if_pos h3]
    have e3 : decide ((4 : Int) < (IL : Int)) = true := decide_eq_true (by omega)
    have e3' : decide (4 < IL) = true := decide_eq_true h3
    clear h3
    go_enter Try.func26, Try.ntmps26
    go_wp2_with fail
    with_reducible refine (HN.out _).mono ?_
    rintro e w6 ⟨rfl, rfl⟩
    go_wp2_with fail
    go_ret
    exact ⟨rfl, HB.out⟩
  have e3 : decide ((4 : Int) < (IL : Int)) = false := decide_eq_false (by omega)
  have e3' : decide (4 < IL) = false := decide_eq_false h3
  rw [if_neg h3]
  clear h3
  by_cases h4 : TL = 0
  · rw [if_pos h4]
    have e4 : ((TL : Int) == 0) = true := by simp; omega
    have e4' : (TL == 0) = true := by simpa using h4
    clear h4
    go_enter Try.func26, Try.ntmps26
    go_wp2_with fail
    with_reducible refine (HN.out _).mono ?_
    rintro e w6 ⟨rfl, rfl⟩
    go_wp2_with fail
    go_ret
    exact ⟨rfl, HB.out⟩
  have e4 : ((TL : Int) == 0) = false := by simp; omega
  have e4' : (TL == 0) = false := by simpa using h4
  rw [if_neg h4]
  clear h4
  by_cases h5 : 4 < TL
  · rw [if_pos h5]
    have e5 : decide ((TL : Int) ≤ 4) = false := decide_eq_false (by omega)
    have e5' : decide (TL ≤ 4) = false := decide_eq_false (by omega)
    clear h5
    go_enter Try.func26, Try.ntmps26
    go_wp2_with fail
    with_reducible refine (HN.out _).mono ?_
    rintro e w6 ⟨rfl, rfl⟩
    go_wp2_with fail
    with_reducible refine (unless_any _ 3 _).mono ?_
    rintro e w7 ⟨rfl, rfl⟩
    go_wp2_with fail
    go_ret
    exact ⟨rfl, HB.out⟩
  · rw [if_neg h5]
    have e5 : decide ((TL : Int) ≤ 4) = true := decide_eq_true (by omega)
    have e5' : decide (TL ≤ 4) = true := decide_eq_true (by omega)
    clear h5
    go_enter Try.func26, Try.ntmps26
    go_wp2_with fail
    with_reducible refine (HN.out _).mono ?_
    rintro e w6 ⟨rfl, rfl⟩
    go_wp2_with fail
    with_reducible refine (unless_any _ 3 _).mono ?_
    rintro e w7 ⟨rfl, rfl⟩
    go_wp2_with fail
    go_ret
    exact ⟨rfl, HB.out⟩
end Go.Proofs.Ytlgnagmmljdkiab.Lx
/-
  Cells, threads, the question, as an audit asks them, as contracts.
-/

namespace Go.Proofs.Ytlgnagmmljdkiab.Lx
open Go.RowKit
open P (wth EX CO ST PG setsB regsL nodeE nodeC eachX eachXs eachC eachCs withinX withinC dpX dpXs dpC dpCs andE regE locE cellE headE celL thrL blkL Wk3 askE cntL)
set_option maxRecDepth 100000
set_option linter.unusedVariables false
set_option linter.unusedSimpArgs false

abbrev CE' := List UInt8 × Int
theorem celL_step {vals : Int} : ∀ {es : List CE'} {j : Nat} {c : CE'} {l0 l : List (List UInt8)} {p : Nat}, es[j]? = some c → celL vals (es.take j) l0 p = .ok l → (cellE vals l c = 0 → celL vals (es.take (j + 1)) l0 p = .ok (wth l c.1)) ∧ (cellE vals l c ≠ 0 → celL vals es l0 p = .error (cellE vals l c, p + j + 1))
  | [], j, c, l0, l, p, h, _ => by simp at h
  | y :: es, 0, c, l0, l, p, h, h0 => by
    simp at h
    subst h
    rw [List.take_zero, P.celL] at h0
    cases h0
    constructor
    · intro h1
      rw [List.take_succ_cons, List.take_zero, P.celL, if_neg (fun hh => hh h1), P.celL]
    · intro h1
      rw [P.celL, if_pos h1]
  | y :: es, j + 1, c, l0, l, p, h, h0 => by
    rw [List.take_succ_cons, P.celL] at h0
    by_cases hy : cellE vals l0 y ≠ 0
    · rw [if_pos hy] at h0
      cases h0
    · rw [if_neg hy] at h0
      obtain ⟨ih1, ih2⟩ := celL_step (es := es) (j := j) (c := c) (by simpa using h) h0
      constructor
      · intro h1
        rw [List.take_succ_cons, P.celL, if_neg hy]
        exact ih1 h1
      · intro h1
        rw [P.celL, if_neg hy, ih2 h1]
        congr 2
        omega
theorem celL_len {vals : Int} : ∀ {es : List CE'} {l0 l : List (List UInt8)} {p : Nat}, celL vals es l0 p = .ok l → l.length ≤ l0.length + es.length
  | [], l0, l, p, h => by
    rw [P.celL] at h
    cases h
    simp
  | y :: es, l0, l, p, h => by
    rw [P.celL] at h
    by_cases hy : cellE vals l0 y ≠ 0
    · rw [if_pos hy] at h
      cases h
    · rw [if_neg hy] at h
      have h1 := celL_len h
      have h2 := P.wthLen l0 y.1
      rw [List.length_cons]
      omega
theorem thrL_step {vals : Int} {locs : List (List UInt8)} : ∀ {ts : List (List ST)} {j : Nat} {l : List ST} {p0 p : Nat}, ts[j]? = some l → thrL vals locs (ts.take j) p0 = .ok p → (∀ c, blkL vals locs 0 l ⟨p, [], 0⟩ = .ok c → thrL vals locs (ts.take (j + 1)) p0 = .ok c.part) ∧ (∀ y, blkL vals locs 0 l ⟨p, [], 0⟩ = .error y → thrL vals locs ts p0 = .error y)
  | [], j, l, p0, p, h, _ => by simp at h
  | z :: ts, 0, l, p0, p, h, h0 => by
    simp at h
    subst h
    rw [List.take_zero, P.thrL] at h0
    cases h0
    constructor
    · intro c h1
      rw [List.take_succ_cons, List.take_zero, P.thrL, h1]
      show thrL vals locs [] c.part = _
      rw [P.thrL]
    · intro y h1
      rw [P.thrL, h1]
      rfl
  | z :: ts, j + 1, l, p0, p, h, h0 => by
    rw [List.take_succ_cons, P.thrL] at h0
    cases hz : blkL vals locs 0 z ⟨p0, [], 0⟩ with
    | error e =>
      rw [hz] at h0
      cases h0
    | ok c1 =>
      rw [hz] at h0
      obtain ⟨ih1, ih2⟩ := thrL_step (ts := ts) (j := j) (l := l) (p0 := c1.part) (p := p) (by simpa using h) h0
      constructor
      · intro c h1
        rw [List.take_succ_cons, P.thrL, hz]
        exact ih1 c h1
      · intro y h1
        rw [P.thrL, hz]
        exact ih2 y h1
theorem thrL_le {vals : Int} {locs : List (List UInt8)} : ∀ {ts : List (List ST)} {p0 p : Nat}, (∀ l ∈ ts, cntL l ≤ 100000) → thrL vals locs ts p0 = .ok p → p ≤ p0 + 100000 * ts.length
  | [], p0, p, _, h => by
    rw [P.thrL] at h
    cases h
    omega
  | z :: ts, p0, p, hc, h => by
    rw [P.thrL] at h
    cases hz : blkL vals locs 0 z ⟨p0, [], 0⟩ with
    | error e =>
      rw [hz] at h
      cases h
    | ok c1 =>
      rw [hz] at h
      have h1 := thrL_le (ts := ts) (p0 := c1.part) (p := p) (fun l hl => hc l (.tail _ hl)) h
      have h2 := (P.blkL_inv _ _ _ _ hz).1
      simp only at h2
      have h3 := hc z (.head _)
      rw [List.length_cons]
      omega
theorem thrL_err {vals : Int} {locs : List (List UInt8)} : ∀ {ts : List (List ST)} {p0 : Nat} {y : Nat × Nat}, thrL vals locs ts p0 = .error y → y.1 ≠ 0
  | [], p0, y, h => by
    rw [P.thrL] at h
    cases h
  | z :: ts, p0, y, h => by
    rw [P.thrL] at h
    cases hz : blkL vals locs 0 z ⟨p0, [], 0⟩ with
    | error e =>
      rw [hz] at h
      cases h
      exact P.blkL_err _ _ _ _ hz
    | ok c1 =>
      rw [hz] at h
      exact thrL_err (ts := ts) (p0 := c1.part) h
theorem celL_err {vals : Int} : ∀ {es : List CE'} {l0 : List (List UInt8)} {p : Nat} {y : Nat × Nat}, celL vals es l0 p = .error y → y.1 ≠ 0
  | [], l0, p, y, h => by
    rw [P.celL] at h
    cases h
  | z :: es, l0, p, y, h => by
    rw [P.celL] at h
    by_cases hz : cellE vals l0 z ≠ 0
    · rw [if_pos hz] at h
      cases h
      exact hz
    · rw [if_neg hz] at h
      exact celL_err h

/-- An audit while it asks the cells: its locations so far. -/
def Al (B a : Nat) (x : PV) (part st : Int) (locs : List (List UInt8)) (w : World) : Prop :=
  NA B a 11 76 (auC x part (.slice none 0 0) none (.slice none 0 0) none st) locs w ∧ a < B ∧ B ≤ w.heap.size
theorem Al.below {B a : Nat} {x : PV} {part st : Int} {locs : List (List UInt8)} {w w' : World} (h : Al B a x part st locs w) (hb : Below w.heap.size w w') : Al B a x part st locs w' := ⟨h.1.below hb, h.2.1, Nat.le_trans h.2.2 hb.size⟩
theorem Al.part {B a : Nat} {x : PV} {part part' st : Int} {locs : List (List UInt8)} {w : World} (h : Al B a x part st locs w) (u : Int) (hu : u = part') : Al B a x part' st locs (w.setCell ⟨a, 10, none⟩ (.int .i64 u)) := by
  subst hu
  obtain ⟨⟨v, m, h1, h2⟩, h3, h4⟩ := h
  exact ⟨⟨v, m, h1.set 10 (.int .i64 u), ⟨ownsRow_setCell_other h2.row (a := ⟨a, 10, none⟩) (own_ne h2.row h1 (by decide)) _, h2.map.block (fun k hk => Below.heap_setCell _ _ _ _ (fun e => blkMapOf h1 h2.map hk e.symm)), h2.low⟩⟩, h3, by simpa using h4⟩
theorem Al.ad {B a : Nat} {x : PV} {part st : Int} {locs : List (List UInt8)} {w : World} (h : Al B a x part st locs w) : ∃ lv lm, Ad w.heap.size a x part lv lm st locs [] w := by
  obtain ⟨⟨v, m, h1, h2⟩, h3, h4⟩ := h
  rw [auC_locs] at h1
  exact ⟨v, m, _, _, h1, nmvNil _ _, h2.map, h2.map.lt, Nat.lt_of_lt_of_le h3 h4, Nat.le_refl _⟩
theorem Al.cell {B a : Nat} {x : PV} {part st : Int} {locs : List (List UInt8)} {w : World} (h : Al B a x part st locs w) : w.cell? ⟨a, 10, none⟩ = some (.int .i64 part) ∧ w.cell? ⟨a, 2, none⟩ = some x.vi ∧ w.frozen? ⟨a, 10, none⟩ = false := by
  obtain ⟨⟨v, m, h1, h2⟩, h3, h4⟩ := h
  exact ⟨h1.cell 10, h1.cell 2, h1.free 10⟩
theorem Al.e {B a : Nat} {x : PV} {part st : Int} {locs : List (List UInt8)} {w : World} (h : Al B a x part st locs w) {p : Nat} (hp : part = (p : Nat)) : AdE a p w := by
  obtain ⟨⟨v, m, h1, h2⟩, h3, h4⟩ := h
  subst hp
  exact ⟨_, h1, rfl⟩
/-- What the walk of the cells leaves. -/
def CelTo (B a : Nat) (x : PV) (n : Nat) (w : World) (e : Ending) (w' : World) : Except (Nat × Nat) (List (List UInt8)) → Prop
  | .ok locs => e = .returned (.int .i64 0) ∧ Al B a x (n : Nat) 0 locs w' ∧ Kq B a w w'
  | .error y => e = .returned (.int .i64 (y.1 : Nat)) ∧ AdE a y.2 w' ∧ Kq B a w w'
theorem cel_some {B a n : Nat} {x : PV} {w w' : World} {r : Except (Nat × Nat) (List (List UInt8))} {m p : Nat} {e : Ending} (hr : r = .error (m, p)) (he : e = .returned (.int .i64 (m : Nat))) (h : AdE a p w') (hk : Kq B a w w') : CelTo B a x n w e w' r := by
  subst hr
  exact ⟨he, h, hk⟩
theorem cel_none {B a n : Nat} {x : PV} {w w' : World} {r : Except (Nat × Nat) (List (List UInt8))} {l : List (List UInt8)} (hr : r = .ok l) (h : Al B a x (n : Nat) 0 l w') (hk : Kq B a w w') : CelTo B a x n w (.returned (.int .i64 0)) w' r := by
  subst hr
  exact ⟨rfl, h, hk⟩
set_option maxHeartbeats 12800000 in
theorem ckcells_any {B a : Nat} {x : PV} {w : World} (h : Al B a x 0 0 [] w) (es : List CE') {ia : Option Addr} {ic : Nat} (hi : x.vi = .slice ia es.length ic) (hes : es = [] ∨ ∃ g off, ia = some ⟨g, off, none⟩ ∧ (g < B ∧ g ≠ a) ∧ LEs w g off es) (hl : es.length ≤ 1000) (hs : ∀ c ∈ es, c.1.length ≤ maxLen) :
    Calls Try.prog 27 #[.pointer (some ⟨a, 0, none⟩)] w (fun e w' => CelTo B a x es.length w e w' (celL x.vals es [] 0)) := by
  have HAL0 := Lib.hid h
  have HES := Lib.hid hes
  have HS := Lib.hid hs
  have HI := Lib.hid hi
  have a2 := h.cell.2.1
  rw [hi] at a2
  clear h hes hs hi
  go_enter Try.func27, Try.ntmps27
  go_wp2_with fail
  go_loopw [12] (fun i wr => ∃ (j : Nat) (locs : List (List UInt8)), i = .int .i64 (j : Nat) ∧ j ≤ es.length ∧ celL x.vals (es.take j) [] 0 = .ok locs ∧ Al B a x (j : Nat) 0 locs wr ∧ Kq B a w wr) (fun i _ => es.length - (intOf i).toNat)
  case atStart => exact ⟨0, [], rfl, Nat.zero_le _, by rw [List.take_zero, P.celL], HAL0.out, Kq.refl _ _ _⟩
  case round =>
    obtain ⟨j, locs, rfl, hj, hcel, hal, hkq⟩ := hrel
    have HCEL := Lib.hid hcel
    have HALr := Lib.hid hal
    have HKr := Lib.hid hkq
    have hszr := hkq.size
    have habl := hal.2.1
    have hBs := hal.2.2
    have hll := celL_len hcel
    rw [List.length_take, List.length_nil] at hll
    clear hcel hal hkq
    by_cases hlt : j < es.length
    · obtain ⟨ga, oa, rfl, hga, hles⟩ : ∃ ga oa, ia = some ⟨ga, oa, none⟩ ∧ (ga < B ∧ ga ≠ a) ∧ LEs w ga oa es := by
        rcases HES.out with h0 | h0
        · rw [h0] at hlt
          simp at hlt
        · exact h0
      obtain ⟨c, hc, k0, k1⟩ := LEs.at es hles j hlt
      have HSTEP := Lib.hid (celL_step hc HCEL.out)
      have hcl := HS.out c (List.mem_of_getElem? hc)
      have hkc : ∀ (o : Nat) (u : Value), w.cell? ⟨ga, o, none⟩ = some u → wr.cell? ⟨ga, o, none⟩ = some u := fun o u hu => HKr.out.only.cell hu (by rintro (e | e) <;> simp at e <;> omega)
      have c0 := hkc _ _ k0
      have c1 := hkc _ _ k1
      obtain ⟨s, n⟩ := c
      simp only at c0 c1 hcl
      have hlw : locs.length ≤ 1000 := by omega
      have HCL := Lib.hid hcl
      have d1 : (0 : Int) ≤ (j : Int) := by omega
      have d2 : (j : Int) < (es.length : Int) := by omega
      have d3 : decide ((j : Int) < (es.length : Int)) = true := decide_eq_true (by omega)
      have d4 : decide (j < es.length) = true := decide_eq_true (by omega)
      have hbx := one_belowN wr (.cells #[.string (bs s), .int .i64 n] 39)
      have HBX0 := Lib.hid (Blk.new wr 39 #[.string (bs s), .int .i64 n])
      have hAl1 := HALr.out.below hbx
      obtain ⟨a10, _, f10⟩ := hAl1.cell
      have HAl2 := Lib.hid (hAl1.part ((j : Int) + 1) (part' := ((j + 1 : Nat) : Int)) (by omega))
      have hgb : wr.heap.size ≠ a := by omega
      have HK2 := Lib.hid ((Kq.below (B := B) (g := a) hbx).set 10 (.int .i64 ((j : Int) + 1)))
      have HBX2 := Lib.hid (HBX0.out.far (p := ⟨a, 10, none⟩) hgb (.int .i64 ((j : Int) + 1)))
      clear hles hc k0 k1 hkc hcl hbx hAl1 hll
      go_upto_region 5 with (fail)
      obtain ⟨lv, lm, hAd2⟩ := HAl2.out.ad
      have HKW2 := Lib.hid (HKr.out.trans HK2.out)
      have hs2 := HK2.out.size
      have hx1 := HBX2.out.lt
      have HCE := Lib.hid (ckcell_any hAd2 (s, n) HCL.out)
      have hne9 : 9 ≠ 39 := by decide
      have HNE9 := Lib.hid hne9
      clear a10 f10 HBX0 HKr HK2 hne9 hAd2 c0 c1 HALr
      generalize hw2 : (wr.alloc (.cells #[.string (bs s), .int .i64 n] 39)).setCell ⟨a, 10, none⟩ (.int .i64 ((j : Int) + 1)) = w2 at *
      generalize hbx : wr.heap.size = bx at *
      clear hw2 hbx
      have q0 : w2.cell? ⟨bx, 0, none⟩ = some (.string (bs s)) := HBX2.out.cell 0
      have q1 : w2.cell? ⟨bx, 1, none⟩ = some (.int .i64 n) := HBX2.out.cell 1
      generalize hSE : cellE x.vals locs (s, n) = SE at *
      clear hSE
      by_cases hse : SE = 0
      · have HC0 := Lib.hid (er_zero HCE.out hse)
        have HNX := Lib.hid (HSTEP.out.1 hse)
        clear hse HCE
        go_wp2_with fail
        with_reducible refine HC0.out.mono ?_
        rintro e w3 ⟨rfl, hb3⟩
        have HAL3 := Lib.hid (HAl2.out.below hb3)
        have HBX3 := Lib.hid (HBX2.out.live' hb3)
        have HKQ3 := Lib.hid (HKW2.out.trans (Kq.below hb3))
        have hs3 := hb3.size
        have hbD : Below w3.heap.size w3 w3.drew := (Below.refl _ _).drew
        have HADD := Lib.hid (add_at (HAL3.out.below hbD).1 (show 11 + 1 < 16 by decide) (by decide) (show B ≤ w3.drew.heap.size from by show B ≤ w3.heap.size; omega) (by omega) s HCL.out)
        have HK0 := Lib.hid (show w3.cell? ⟨bx, 0, none⟩ = some (.string (bs s)) from HBX3.out.cell 0)
        have HKD := Lib.hid (show w3.drew.cell? ⟨bx, 0, none⟩ = some (.string (bs s)) from HBX3.out.cell 0)
        have HX := Lib.hid (show ∀ w', Kq B a w3.drew w' → w'.cell? ⟨bx, 0, none⟩ = some (.string (bs s)) from fun w' hk => (hk.keep bx _ _ hgb HNE9.out (HBX3.out.live' hbD)).cell 0)
        have HBD := Lib.hid hbD
        clear hb3 q0 q1 hbD
        go_wp2_with fail
        go_region_held3 (fun w' => w'.cell? ⟨bx, 0, none⟩ = some (.string (bs s)))
          (first
            | with_reducible exact HK0.out
            | with_reducible exact HKD.out
            | with_reducible assumption
            | go_keep)
          (first
            | (go_at_call 42; (with_reducible refine HADD.out.mono ?_); rintro e w7 ⟨rfl, hna7, hk7⟩; have hS7 := HX.out w7 hk7; have HNA7 := Lib.hid hna7; have HK7 := Lib.hid hk7; clear hna7 hk7))
        all_goals
          go_wp2_with fail
          go_roundw
          case rel => exact ⟨j + 1, wth locs s, by go_num, by omega, HNX.out, ⟨HNA7.out, habl, by have h1 := HK7.out.size; have h2 : w3.drew.heap.size = w3.heap.size := rfl; omega⟩, (HKQ3.out.trans (Kq.below HBD.out)).trans HK7.out⟩
          case measure => simp [intOf]; omega
      · obtain ⟨f1, f2, f3⟩ := er_flags hse
        have HER := Lib.hid (show celL x.vals es [] 0 = .error (SE, j + 1) by rw [HSTEP.out.2 hse, Nat.zero_add])
        have HC1 := Lib.hid (er_some HCE.out)
        clear hse HCE
        go_wp2_with fail
        with_reducible refine HC1.out.mono ?_
        rintro e w3 ⟨rfl, hb3⟩
        have HADE := Lib.hid ((HAl2.out.below hb3).e rfl)
        have HK3 := Lib.hid (HKW2.out.trans (Kq.below hb3))
        clear hb3 q0 q1
        go_wp2_with fail
        go_ret
        exact cel_some HER.out rfl HADE.out HK3.out
    · obtain rfl : j = es.length := by omega
      have HTL := Lib.hid (List.take_length (l := es))
      have HOKE := Lib.hid (show celL x.vals es [] 0 = .ok locs by have h := HCEL.out; rw [HTL.out] at h; exact h)
      clear hlt hll
      go_wp2_with fail
      go_ret
      exact cel_none HOKE.out HALr.out HKr.out
end Go.Proofs.Ytlgnagmmljdkiab.Lx
/-
  Threads and the question, as an audit asks them, as contracts.
-/

namespace Go.Proofs.Ytlgnagmmljdkiab.Lx
open Go.RowKit
open P (wth EX CO ST PG setsB regsL nodeE nodeC eachX eachXs eachC eachCs withinX withinC dpX dpXs dpC dpCs andE regE locE cellE headE celL thrL blkL Wk3 askE cntL)
set_option maxRecDepth 100000
set_option linter.unusedVariables false
set_option linter.unusedSimpArgs false

/-- The registers made none. -/
theorem Ad.zero {B a : Nat} {x : PV} {part : Int} {lv : Value} {lm : Option Nat} {st : Int} {locs regs : List (List UInt8)} {w : World} (h : Ad B a x part lv lm st locs regs w) : Ad B a x part lv lm 0 locs [] (((w.setCell ⟨a, 13, none⟩ (.slice none 0 0)).setCell ⟨a, 14, none⟩ (.map none)).setCell ⟨a, 15, none⟩ (.int .i64 0)) := by
  obtain ⟨rv, rm, h1, h2, h3, h4, h5, h6⟩ := h
  refine ⟨.slice none 0 0, none, ((h1.set 13 (.slice none 0 0)).set 14 (.map none)).set 15 (.int .i64 0), nmvNil _ _, h3.block (fun k hk => ?_), h4, h5, by simpa using h6⟩
  have hne := fun e => blkMapOf h1 h3 hk e
  exact (Below.heap_setCell _ _ _ _ (fun e => hne e.symm)).trans ((Below.heap_setCell _ _ _ _ (fun e => hne e.symm)).trans (Below.heap_setCell _ _ _ _ (fun e => hne e.symm)))
/-- What the walk of the threads leaves. -/
def ThrTo (B a : Nat) (x : PV) (lv : Value) (lm : Option Nat) (locs : List (List UInt8)) (w : World) (e : Ending) (w' : World) : Except (Nat × Nat) Nat → Prop
  | .ok p => e = .returned (.int .i64 0) ∧ (∃ st regs, Ad B a x (p : Nat) lv lm st locs regs w') ∧ Kq B a w w'
  | .error y => e = .returned (.int .i64 (y.1 : Nat)) ∧ AdE a y.2 w' ∧ Kq B a w w'
theorem thr_some {B a : Nat} {x : PV} {lv : Value} {lm : Option Nat} {locs : List (List UInt8)} {w w' : World} {r : Except (Nat × Nat) Nat} {m p : Nat} {e : Ending} (hr : r = .error (m, p)) (he : e = .returned (.int .i64 (m : Nat))) (h : AdE a p w') (hk : Kq B a w w') : ThrTo B a x lv lm locs w e w' r := by
  subst hr
  exact ⟨he, h, hk⟩
theorem thr_none {B a : Nat} {x : PV} {lv : Value} {lm : Option Nat} {locs : List (List UInt8)} {w w' : World} {r : Except (Nat × Nat) Nat} {p : Nat} {st : Int} {regs : List (List UInt8)} (hr : r = .ok p) (h : Ad B a x (p : Nat) lv lm st locs regs w') (hk : Kq B a w w') : ThrTo B a x lv lm locs w (.returned (.int .i64 0)) w' r := by
  subst hr
  exact ⟨rfl, ⟨st, regs, h⟩, hk⟩
set_option maxHeartbeats 12800000 in
theorem ckthreads_any {B a : Nat} {x : PV} {p0 : Nat} {lv : Value} {lm : Option Nat} {st0 : Int} {locs regs0 : List (List UInt8)} {w : World} (h : Ad B a x (p0 : Nat) lv lm st0 locs regs0 w) (ts : List (List ST)) {va : Option Addr} {vc : Nat} (hx : x.vt = .slice va ts.length vc) (hts : ts = [] ∨ ∃ g off, va = some ⟨g, off, none⟩ ∧ (g < B ∧ g ≠ a) ∧ LTs (fun k => k < B ∧ k ≠ a) w g off ts) (hw : ∀ l ∈ ts, wfSs l ∧ cntL l ≤ 100000) (hl : ts.length ≤ 4) (hp : p0 ≤ 1000) :
    Calls Try.prog 28 #[.pointer (some ⟨a, 0, none⟩)] w (fun e w' => ThrTo B a x lv lm locs w e w' (thrL x.vals locs ts p0)) := by
  have HAD0 := Lib.hid h
  have HTS := Lib.hid hts
  have HW := Lib.hid hw
  have a3 : w.cell? ⟨a, 3, none⟩ = some (.slice va ts.length vc) := by
    obtain ⟨rv, rm, g1, _⟩ := h
    rw [← hx]
    exact g1.cell 3
  clear h hts hw hx
  go_enter Try.func28, Try.ntmps28
  go_wp2_with fail
  go_loopw [12] (fun i wr => ∃ (j p : Nat) (st : Int) (regs : List (List UInt8)), i = .int .i64 (j : Nat) ∧ j ≤ ts.length ∧ thrL x.vals locs (ts.take j) p0 = .ok p ∧ Ad B a x (p : Nat) lv lm st locs regs wr ∧ Kq B a w wr) (fun i _ => ts.length - (intOf i).toNat)
  case atStart => exact ⟨0, p0, st0, regs0, rfl, Nat.zero_le _, by rw [List.take_zero, P.thrL], HAD0.out, Kq.refl _ _ _⟩
  case round =>
    obtain ⟨j, p, st, regs, rfl, hj, hthr, had, hkq⟩ := hrel
    have HTHR := Lib.hid hthr
    have HADr := Lib.hid had
    have HKr := Lib.hid hkq
    have hszr := hkq.size
    have hle := thrL_le (fun l hl' => (HW.out l (List.mem_of_mem_take hl')).2) hthr
    rw [List.length_take] at hle
    have hple : p ≤ 500000 := by omega
    clear hthr had hkq hle
    by_cases hlt : j < ts.length
    · obtain ⟨ga, oa, rfl, hga, hlts⟩ : ∃ ga oa, va = some ⟨ga, oa, none⟩ ∧ (ga < B ∧ ga ≠ a) ∧ LTs (fun k => k < B ∧ k ≠ a) w ga oa ts := by
        rcases HTS.out with h0 | h0
        · rw [h0] at hlt
          simp at hlt
        · exact h0
      obtain ⟨l, vl, hl', k0, hss⟩ := LTs.at ts hlts j hlt
      have HSTEP := Lib.hid (thrL_step hl' HTHR.out)
      obtain ⟨hwl, hcl⟩ := HW.out l (List.mem_of_getElem? hl')
      obtain ⟨al, cl, rfl, hlm, hrow⟩ := hss
      have c0 : wr.cell? ⟨ga, oa + j, none⟩ = some (.slice al l.length cl) := HKr.out.only.cell k0 (by rintro (e | e) <;> simp at e <;> omega)
      have HROW := Lib.hid ((show RowS (fun k => k < B ∧ k ≠ a) w al l from hrow).keep (Q_keep HKr.out))
      have HWL := Lib.hid hwl
      have HLM := Lib.hid hlm
      have d1 : (0 : Int) ≤ (j : Int) := by omega
      have d2 : (j : Int) < (ts.length : Int) := by omega
      have d3 : decide ((j : Int) < (ts.length : Int)) = true := decide_eq_true (by omega)
      have d4 : decide (j < ts.length) = true := decide_eq_true (by omega)
      have HK2 := Lib.hid ((((Kq.refl B a wr).set 13 (.slice none 0 0)).set 14 (.map none)).set 15 (.int .i64 0))
      have HAd2 := Lib.hid HADr.out.zero
      obtain ⟨rv, rm, g1, _⟩ := HADr.out
      have f13 := g1.free 13
      have f14 := g1.free 14
      have f15 := g1.free 15
      have b13 : wr.cell? ⟨a, 13, none⟩ = some rv := g1.cell 13
      have b14 : wr.cell? ⟨a, 14, none⟩ = some (.map rm) := g1.cell 14
      have b15 : wr.cell? ⟨a, 15, none⟩ = some (.int .i64 st) := g1.cell 15
      clear hlts hl' k0 hrow hwl hlm g1
      go_upto_region 5 with (fail)
      have HROW2 := Lib.hid (HROW.out.keep (Q_keep HK2.out))
      have HKW2 := Lib.hid (HKr.out.trans HK2.out)
      have HBL := Lib.hid (ckblock_any (B := B) (a := a) (x := x) (lv := lv) (lm := lm) (locs := locs) (sizeSs l + 1) l (Nat.lt_succ_self _) 0 ⟨p, [], 0⟩ al cl _ HAd2.out HROW2.out (by omega) HLM.out hcl (by simp only; omega) (by simp only; omega) (by simp only [List.length_nil]; omega) HWL.out 0 rfl)
      clear f13 f14 f15 b13 b14 b15 HROW HKr HK2 HADr c0
      generalize hw2 : ((wr.setCell ⟨a, 13, none⟩ (.slice none 0 0)).setCell ⟨a, 14, none⟩ (.map none)).setCell ⟨a, 15, none⟩ (.int .i64 0) = w2 at *
      clear hw2
      generalize hbl : blkL x.vals locs 0 l ⟨p, [], 0⟩ = R at *
      have HBLE := Lib.hid hbl
      clear hbl
      cases R with
      | error y =>
        obtain ⟨y1, y2⟩ := y
        have HER := Lib.hid (HSTEP.out.2 _ rfl)
        obtain ⟨f1, f2, f3⟩ := er_flags (P.blkL_err _ _ _ _ HBLE.out)
        have HB1 := Lib.hid (blk_err HBL.out rfl)
        clear HBL
        go_wp2_with fail
        with_reducible refine HB1.out.mono ?_
        rintro e w5 ⟨rfl, hade, hk5⟩
        have HADE := Lib.hid hade
        have HK5 := Lib.hid (HKW2.out.trans hk5)
        clear hade hk5
        go_wp2_with fail
        go_ret
        exact thr_some HER.out rfl HADE.out HK5.out
      | ok c =>
        have HNX := Lib.hid (HSTEP.out.1 _ rfl)
        have HB1 := Lib.hid (blk_ok HBL.out rfl)
        clear HBL
        go_wp2_with fail
        with_reducible refine HB1.out.mono ?_
        rintro e w5 ⟨rfl, had5, hk5⟩
        have HAD5 := Lib.hid had5
        have HK5 := Lib.hid (HKW2.out.trans hk5)
        clear had5 hk5
        go_wp2_with fail
        go_roundw
        case rel => exact ⟨j + 1, c.part, (c.n : Nat), c.regs, by go_num, by omega, HNX.out, HAD5.out, HK5.out⟩
        case measure => simp [intOf]; omega
    · obtain rfl : j = ts.length := by omega
      have HTL := Lib.hid (List.take_length (l := ts))
      have HOKE := Lib.hid (show thrL x.vals locs ts p0 = .ok p by have h := HTHR.out; rw [HTL.out] at h; exact h)
      clear hlt
      go_wp2_with fail
      go_ret
      exact thr_none HOKE.out HADr.out HKr.out
theorem nodeC_le (vals : Int) (locs : List (List UInt8)) (ts : List (List ST)) (e : CO) : nodeC vals locs ts e ≤ 100 := by
  obtain ⟨o, t, s, n, ks⟩ := e
  unfold P.nodeC
  repeat (first | omega | split)
set_option maxHeartbeats 12800000 in
theorem ckquestion_any {B a p0 : Nat} {x : PV} {lv : Value} {lm : Option Nat} {st : Int} {locs regs : List (List UInt8)} {w : World} (h : Ad B a x (p0 : Nat) lv lm st locs regs w) (p : PG) {va : Option Addr} {vc : Nat} (hx : x.vt = .slice va p.threads.length vc) (hvv : x.vals = p.vals) (hask : x.ask = p.ask)
    (hth : ∀ w', Kq B a w w' → ThIn w' x.vt p.threads) (hlc : ∀ w', Kq B a w w' → LC (fun _ => True) w' (.agg #[.int .i64 x.o, .int .i64 x.t, .string x.s, .int .i64 x.n, .slice x.ka x.km x.kc]) p.cond) (hwc : wfC p.cond) (hp : p0 ≤ 1000000) :
    Calls Try.prog 29 #[.pointer (some ⟨a, 0, none⟩)] w (fun e w' => e = .returned (.int .i64 (askE p locs : Nat)) ∧ AdE a (p0 + 1) w' ∧ Kq B a w w') := by
  have hk2 := (Kq.refl B a w).set 10 (.int .i64 ((p0 : Int) + 1))
  have had2 := h.part ((p0 : Int) + 1) (part' := ((p0 + 1 : Nat) : Int)) (by omega)
  have HWI := Lib.hid (withinC_any a (nodeC x.vals locs p.threads) (nodeC_le _ _ _) p.cond _ _ (fun e v w' hb hl hwf => ckcond_any (had2.below hb) hx ((hth _ hk2).below hb) e v hl hwf) (hlc _ hk2) hwc)
  rw [hvv] at HWI
  have HK2 := Lib.hid hk2
  have HAD2 := Lib.hid had2
  unfold P.askE
  obtain ⟨rv, rm, g1, _⟩ := h
  have b10 : w.cell? ⟨a, 10, none⟩ = some (.int .i64 (p0 : Nat)) := g1.cell 10
  have f10 := g1.free 10
  have b4 : w.cell? ⟨a, 4, none⟩ = some (.int .i64 x.ask) := g1.cell 4
  have b5 : w.cell? ⟨a, 5, none⟩ = some (.int .i64 x.o) := g1.cell 5
  have b6 : w.cell? ⟨a, 6, none⟩ = some (.int .i64 x.t) := g1.cell 6
  have b7 : w.cell? ⟨a, 7, none⟩ = some (.string x.s) := g1.cell 7
  have b8 : w.cell? ⟨a, 8, none⟩ = some (.int .i64 x.n) := g1.cell 8
  have b9 : w.cell? ⟨a, 9, none⟩ = some (.slice x.ka x.km x.kc) := g1.cell 9
  rw [hask] at b4
  clear g1 hk2 had2 hth hlc hwc hask hvv hx
  generalize withinC (nodeC p.vals locs p.threads) p.cond = WI at *
  generalize p.ask = ask at *
  by_cases h1 : ask = 1
  · rw [if_neg (fun hh => hh.1 h1)]
    subst h1
    go_enter Try.func29, Try.ntmps29
    go_wp2_with fail
    with_reducible refine HWI.out.mono ?_
    rintro e w3 ⟨rfl, hb3⟩
    go_wp2_with fail
    go_ret
    exact ⟨rfl, (HAD2.out.below hb3).e rfl, HK2.out.trans (Kq.below hb3)⟩
  · have e1 : (ask != 1) = true := by simpa using h1
    have e1' : (ask == 1) = false := by simpa using h1
    by_cases h2 : ask = 2
    · rw [if_neg (fun hh => hh.2 h2)]
      subst h2
      clear h1
      go_enter Try.func29, Try.ntmps29
      go_wp2_with fail
      with_reducible refine HWI.out.mono ?_
      rintro e w3 ⟨rfl, hb3⟩
      go_wp2_with fail
      go_ret
      exact ⟨rfl, (HAD2.out.below hb3).e rfl, HK2.out.trans (Kq.below hb3)⟩
    · have e2 : (ask != 2) = true := by simpa using h2
      have e2' : (ask == 2) = false := by simpa using h2
      rw [if_pos ⟨h1, h2⟩]
      clear h1 h2
      go_enter Try.func29, Try.ntmps29
      go_wp2_with fail
      go_ret
      exact ⟨rfl, HAD2.out.e rfl, HK2.out⟩
end Go.Proofs.Ytlgnagmmljdkiab.Lx
/-
  What package check tells of a program, as a contract: the first of four that is wrong.
-/

namespace Go.Proofs.Ytlgnagmmljdkiab.Lx
open Go.RowKit
open P (wth EX CO ST PG setsB regsL nodeE nodeC eachX eachXs eachC eachCs withinX withinC dpX dpXs dpC dpCs andE regE locE cellE headE celL thrL blkL Wk3 askE cntL mayP)
set_option maxRecDepth 100000
set_option linter.unusedVariables false
set_option linter.unusedSimpArgs false

set_option maxHeartbeats 12800000 in
theorem first_any (a gs : Nat) (w : World) (S T : Nat → World → Prop) (hb : ∀ j w', S j w' → Blk w' gs 78 #[.func (.func 26) #[.pointer (some ⟨a, 0, none⟩)] #[], .func (.func 27) #[.pointer (some ⟨a, 0, none⟩)] #[], .func (.func 28) #[.pointer (some ⟨a, 0, none⟩)] #[], .func (.func 29) #[.pointer (some ⟨a, 0, none⟩)] #[]])
    (h0 : ∀ w', S 0 w' → Calls Try.prog 26 #[.pointer (some ⟨a, 0, none⟩)] w' (fun e w2 => (e = .returned (.int .i64 0) ∧ S 1 w2) ∨ ∃ n : Nat, n ≠ 0 ∧ e = .returned (.int .i64 (n : Nat)) ∧ T n w2))
    (h1 : ∀ w', S 1 w' → Calls Try.prog 27 #[.pointer (some ⟨a, 0, none⟩)] w' (fun e w2 => (e = .returned (.int .i64 0) ∧ S 2 w2) ∨ ∃ n : Nat, n ≠ 0 ∧ e = .returned (.int .i64 (n : Nat)) ∧ T n w2))
    (h2 : ∀ w', S 2 w' → Calls Try.prog 28 #[.pointer (some ⟨a, 0, none⟩)] w' (fun e w2 => (e = .returned (.int .i64 0) ∧ S 3 w2) ∨ ∃ n : Nat, n ≠ 0 ∧ e = .returned (.int .i64 (n : Nat)) ∧ T n w2))
    (h3 : ∀ w', S 3 w' → Calls Try.prog 29 #[.pointer (some ⟨a, 0, none⟩)] w' (fun e w2 => (e = .returned (.int .i64 0) ∧ S 4 w2) ∨ ∃ n : Nat, n ≠ 0 ∧ e = .returned (.int .i64 (n : Nat)) ∧ T n w2))
    (hs : S 0 w) :
    Calls Try.prog 25 #[.slice (some ⟨gs, 0, none⟩) 4 4] w (fun e w2 => (e = .returned (.int .i64 0) ∧ S 4 w2) ∨ ∃ n : Nat, n ≠ 0 ∧ e = .returned (.int .i64 (n : Nat)) ∧ T n w2) := by
  have HS0 := Lib.hid hs
  clear hs
  go_enter Try.func25, Try.ntmps25
  go_wp2_with fail
  go_loopw [8] (fun i wr => ∃ j : Nat, i = .int .i64 (j : Nat) ∧ j ≤ 4 ∧ S j wr) (fun i _ => 4 - (intOf i).toNat)
  case atStart => exact ⟨0, rfl, by decide, HS0.out⟩
  case round =>
    obtain ⟨j, rfl, hj, hsj⟩ := hrel
    rcases (show j = 0 ∨ j = 1 ∨ j = 2 ∨ j = 3 ∨ j = 4 by omega) with hj0 | hj1 | hj2 | hj3 | hj4
    · clear hj
      subst hj0
      have HC0 := Lib.hid (h0 wr hsj)
      have HS := Lib.hid hsj
      have c0 : wr.cell? ⟨gs, 0, none⟩ = some (.func (.func 26) #[.pointer (some ⟨a, 0, none⟩)] #[]) := (hb _ _ hsj).cell 0
      clear hsj
      go_wp2_with fail
      with_reducible refine HC0.out.mono ?_
      rintro e w2 (⟨rfl, hs2⟩ | ⟨n, hn, rfl, ht⟩)
      · have HS2 := Lib.hid hs2
        clear hs2
        go_wp2_with fail
        go_roundw
        case rel => exact ⟨1, rfl, by decide, HS2.out⟩
        case measure => simp [intOf]
      · obtain ⟨f1, f2, f3⟩ := er_flags hn
        have HT := Lib.hid ht
        have HN := Lib.hid hn
        clear ht hn
        go_wp2_with fail
        go_ret
        exact .inr ⟨n, HN.out, rfl, HT.out⟩
    · clear hj
      subst hj1
      have HC1 := Lib.hid (h1 wr hsj)
      have HS := Lib.hid hsj
      have c1 : wr.cell? ⟨gs, 1, none⟩ = some (.func (.func 27) #[.pointer (some ⟨a, 0, none⟩)] #[]) := (hb _ _ hsj).cell 1
      clear hsj
      go_wp2_with fail
      with_reducible refine HC1.out.mono ?_
      rintro e w2 (⟨rfl, hs2⟩ | ⟨n, hn, rfl, ht⟩)
      · have HS2 := Lib.hid hs2
        clear hs2
        go_wp2_with fail
        go_roundw
        case rel => exact ⟨2, rfl, by decide, HS2.out⟩
        case measure => simp [intOf]
      · obtain ⟨f1, f2, f3⟩ := er_flags hn
        have HT := Lib.hid ht
        have HN := Lib.hid hn
        clear ht hn
        go_wp2_with fail
        go_ret
        exact .inr ⟨n, HN.out, rfl, HT.out⟩
    · clear hj
      subst hj2
      have HC2 := Lib.hid (h2 wr hsj)
      have HS := Lib.hid hsj
      have c2 : wr.cell? ⟨gs, 2, none⟩ = some (.func (.func 28) #[.pointer (some ⟨a, 0, none⟩)] #[]) := (hb _ _ hsj).cell 2
      clear hsj
      go_wp2_with fail
      with_reducible refine HC2.out.mono ?_
      rintro e w2 (⟨rfl, hs2⟩ | ⟨n, hn, rfl, ht⟩)
      · have HS2 := Lib.hid hs2
        clear hs2
        go_wp2_with fail
        go_roundw
        case rel => exact ⟨3, rfl, by decide, HS2.out⟩
        case measure => simp [intOf]
      · obtain ⟨f1, f2, f3⟩ := er_flags hn
        have HT := Lib.hid ht
        have HN := Lib.hid hn
        clear ht hn
        go_wp2_with fail
        go_ret
        exact .inr ⟨n, HN.out, rfl, HT.out⟩
    · clear hj
      subst hj3
      have HC3 := Lib.hid (h3 wr hsj)
      have HS := Lib.hid hsj
      have c3 : wr.cell? ⟨gs, 3, none⟩ = some (.func (.func 29) #[.pointer (some ⟨a, 0, none⟩)] #[]) := (hb _ _ hsj).cell 3
      clear hsj
      go_wp2_with fail
      with_reducible refine HC3.out.mono ?_
      rintro e w2 (⟨rfl, hs2⟩ | ⟨n, hn, rfl, ht⟩)
      · have HS2 := Lib.hid hs2
        clear hs2
        go_wp2_with fail
        go_roundw
        case rel => exact ⟨4, rfl, by decide, HS2.out⟩
        case measure => simp [intOf]
      · obtain ⟨f1, f2, f3⟩ := er_flags hn
        have HT := Lib.hid ht
        have HN := Lib.hid hn
        clear ht hn
        go_wp2_with fail
        go_ret
        exact .inr ⟨n, HN.out, rfl, HT.out⟩
    · subst hj4
      have HS := Lib.hid hsj
      clear hsj hj
      go_wp2_with fail
      go_ret
      exact .inl ⟨rfl, HS.out⟩
theorem Kq.mono {B B' g : Nat} {w w' : World} (h : Kq B' g w w') (hB : B ≤ B') : Kq B g w w' := ⟨h.only.mono (fun k hk => hk.elim .inl (fun hk => .inr (Nat.le_trans hB hk))), h.keep⟩
/-- Its names may be, its numbers are ints, its threads not too long. -/
structure WfP (p : PG) : Prop where
  name : p.name.length ≤ maxLen
  init : ∀ c ∈ p.init, c.1.length ≤ maxLen
  thr : ∀ l ∈ p.threads, wfSs l ∧ cntL l ≤ 100000
  cond : wfC p.cond
theorem headE_zero {p : PG} (h : headE p = 0) : p.init.length ≤ 4 ∧ p.threads.length ≤ 4 := by
  unfold P.headE at h
  by_cases h1 : nameB p.name = false
  · rw [if_pos h1] at h
    cases h
  rw [if_neg h1] at h
  by_cases h2 : p.vals < 2 ∨ 4 < p.vals
  · rw [if_pos h2] at h
    cases h
  rw [if_neg h2] at h
  by_cases h3 : 4 < p.init.length
  · rw [if_pos h3] at h
    cases h
  rw [if_neg h3] at h
  by_cases h4 : p.threads.length = 0
  · rw [if_pos h4] at h
    cases h
  rw [if_neg h4] at h
  by_cases h5 : 4 < p.threads.length
  · rw [if_pos h5] at h
    cases h
  exact ⟨by omega, by omega⟩
/-- Where the four stand. -/
def MayS (B a : Nat) (x : PV) (p : PG) (w1 : World) : Nat → World → Prop
  | 0, w' => Al B a x 0 0 [] w' ∧ Kq B a w1 w'
  | 1, w' => headE p = 0 ∧ Al B a x 0 0 [] w' ∧ Kq B a w1 w'
  | 2, w' => headE p = 0 ∧ (∃ locs, celL p.vals p.init [] 0 = .ok locs ∧ Al B a x (p.init.length : Nat) 0 locs w') ∧ Kq B a w1 w'
  | 3, w' => headE p = 0 ∧ (∃ locs n, celL p.vals p.init [] 0 = .ok locs ∧ thrL p.vals locs p.threads p.init.length = .ok n ∧ ∃ B2 lv lm st regs, B ≤ B2 ∧ Ad B2 a x (n : Nat) lv lm st locs regs w') ∧ Kq B a w1 w'
  | _ + 4, w' => mayP p = (0, 0) ∧ Kq B a w1 w'
def MayT (B a : Nat) (p : PG) (w1 : World) (n : Nat) (w' : World) : Prop := ∃ q, mayP p = (n, q) ∧ AdE a q w' ∧ Kq B a w1 w'
theorem MayS.kq {B a : Nat} {x : PV} {p : PG} {w1 : World} : ∀ {j : Nat} {w' : World}, MayS B a x p w1 j w' → Kq B a w1 w'
  | 0, _, h => h.2
  | 1, _, h => h.2.2
  | 2, _, h => h.2.2
  | 3, _, h => h.2.2
  | _ + 4, _, h => h.2
/-- The four, one after the other. -/
theorem may_four {B a sz : Nat} {x : PV} {p : PG} {w1 : World} {v : Value} (hsz : sz ≤ a) (hx : v = .agg #[.string x.nm, .int .i64 x.vals, x.vi, x.vt, .int .i64 x.ask, .int .i64 x.o, .int .i64 x.t, .string x.s, .int .i64 x.n, .slice x.ka x.km x.kc]) (hlp : ∀ w', Kq B a w1 w' → LPg (fun k => k < sz) w' v p) (hw : WfP p) (haB : a < B) :
    (∀ w', MayS B a x p w1 0 w' → Calls Try.prog 26 #[.pointer (some ⟨a, 0, none⟩)] w' (fun e w2 => (e = .returned (.int .i64 0) ∧ MayS B a x p w1 1 w2) ∨ ∃ n : Nat, n ≠ 0 ∧ e = .returned (.int .i64 (n : Nat)) ∧ MayT B a p w1 n w2))
    ∧ (∀ w', MayS B a x p w1 1 w' → Calls Try.prog 27 #[.pointer (some ⟨a, 0, none⟩)] w' (fun e w2 => (e = .returned (.int .i64 0) ∧ MayS B a x p w1 2 w2) ∨ ∃ n : Nat, n ≠ 0 ∧ e = .returned (.int .i64 (n : Nat)) ∧ MayT B a p w1 n w2))
    ∧ (∀ w', MayS B a x p w1 2 w' → Calls Try.prog 28 #[.pointer (some ⟨a, 0, none⟩)] w' (fun e w2 => (e = .returned (.int .i64 0) ∧ MayS B a x p w1 3 w2) ∨ ∃ n : Nat, n ≠ 0 ∧ e = .returned (.int .i64 (n : Nat)) ∧ MayT B a p w1 n w2))
    ∧ (∀ w', MayS B a x p w1 3 w' → Calls Try.prog 29 #[.pointer (some ⟨a, 0, none⟩)] w' (fun e w2 => (e = .returned (.int .i64 0) ∧ MayS B a x p w1 4 w2) ∨ ∃ n : Nat, n ≠ 0 ∧ e = .returned (.int .i64 (n : Nat)) ∧ MayT B a p w1 n w2)) := by
  have hpar : ∀ w', Kq B a w1 w' → x.nm = bs p.name ∧ x.vals = p.vals ∧ x.ask = p.ask ∧ IsEs (fun k => k < sz) w' x.vi p.init ∧ IsTs (fun k => k < sz) w' x.vt p.threads ∧ LC (fun k => k < sz) w' (.agg #[.int .i64 x.o, .int .i64 x.t, .string x.s, .int .i64 x.n, .slice x.ka x.km x.kc]) p.cond := by
    intro w' hk
    obtain ⟨vi, vt, o, t, s, n, ka, m, c, he, g1, g2, g3⟩ := hlp w' hk
    rw [hx] at he
    injection he with he
    injection he with he
    simp only [List.cons.injEq, Value.string.injEq, Value.int.injEq, Value.slice.injEq, true_and, and_true] at he
    obtain ⟨e0, e1, e2, e3, e4, e5, e6, e7, e8, e9, e10, e11⟩ := he
    rw [e2, e3, e5, e6, e7, e8, e9, e10, e11]
    exact ⟨e0, e1, e4, g1, g2, g3⟩
  refine ⟨?_, ?_, ?_, ?_⟩
  · rintro w' ⟨hal, hkq⟩
    obtain ⟨e0, e1, e2, ⟨ia, ic, hi, him, _⟩, ⟨ta, tc, ht, htm, _⟩, _⟩ := hpar w' hkq
    obtain ⟨lv, lm, had⟩ := hal.ad
    refine (ckhead_any had p e0 hw.name e1 hi ht him htm).mono ?_
    rintro e w2 ⟨rfl, hb⟩
    have hk2 := hkq.trans (Kq.below hb)
    by_cases h0 : headE p = 0
    · exact .inl ⟨by rw [h0]; rfl, h0, hal.below hb, hk2⟩
    · exact .inr ⟨headE p, h0, rfl, 0, by unfold P.mayP; rw [if_pos h0], (hal.below hb).e rfl, hk2⟩
  · rintro w' ⟨h0, hal, hkq⟩
    obtain ⟨e0, e1, e2, ⟨ia, ic, hi, him, hes⟩, _, _⟩ := hpar w' hkq
    have hes' : p.init = [] ∨ ∃ g off, ia = some ⟨g, off, none⟩ ∧ (g < B ∧ g ≠ a) ∧ LEs w' g off p.init := by
      rcases hes with h | ⟨g, off, h1, h2, h3⟩
      · exact .inl h
      · exact .inr ⟨g, off, h1, ⟨by have : g < sz := h2; omega, by have : g < sz := h2; omega⟩, h3⟩
    have hlen := (headE_zero h0).1
    have hc := ckcells_any hal p.init hi hes' (by omega) hw.init
    rw [e1] at hc
    refine hc.mono ?_
    intro e w2 hto
    cases hce : celL p.vals p.init [] 0 with
    | ok locs =>
      rw [hce] at hto
      obtain ⟨rfl, hal2, hk2⟩ := hto
      exact .inl ⟨rfl, h0, ⟨locs, hce, hal2⟩, hkq.trans hk2⟩
    | error y =>
      obtain ⟨y1, y2⟩ := y
      rw [hce] at hto
      obtain ⟨rfl, hade, hk2⟩ := hto
      exact .inr ⟨y1, celL_err hce, rfl, y2, by unfold P.mayP; rw [if_neg (fun hh => hh h0), hce], hade, hkq.trans hk2⟩
  · rintro w' ⟨h0, ⟨locs, hce, hal⟩, hkq⟩
    obtain ⟨e0, e1, e2, _, ⟨ta, tc, ht, htm, hts⟩, _⟩ := hpar w' hkq
    obtain ⟨lv, lm, had⟩ := hal.ad
    have hBw : B ≤ w'.heap.size := hal.2.2
    have hts' : p.threads = [] ∨ ∃ g off, ta = some ⟨g, off, none⟩ ∧ (g < w'.heap.size ∧ g ≠ a) ∧ LTs (fun k => k < w'.heap.size ∧ k ≠ a) w' g off p.threads := by
      rcases hts with h | ⟨g, off, h1, h2, h3⟩
      · exact .inl h
      · refine .inr ⟨g, off, h1, ⟨by have : g < sz := h2; omega, by have : g < sz := h2; omega⟩, ?_⟩
        exact LTs.step (fun b hb hl => ⟨⟨hl, by have : b < sz := hb; omega⟩, rfl⟩) rfl _ h3
    have hlen := (headE_zero h0).1
    have hlen2 := (headE_zero h0).2
    have hc := ckthreads_any had p.threads ht hts' hw.thr hlen2 (by omega)
    rw [e1] at hc
    refine hc.mono ?_
    intro e w2 hto
    cases hth : thrL p.vals locs p.threads p.init.length with
    | ok n =>
      rw [hth] at hto
      obtain ⟨rfl, ⟨st, regs, had2⟩, hk2⟩ := hto
      exact .inl ⟨rfl, h0, ⟨locs, n, hce, hth, w'.heap.size, lv, lm, st, regs, hBw, had2⟩, hkq.trans (hk2.mono hBw)⟩
    | error y =>
      obtain ⟨y1, y2⟩ := y
      rw [hth] at hto
      obtain ⟨rfl, hade, hk2⟩ := hto
      exact .inr ⟨y1, thrL_err hth, rfl, y2, by unfold P.mayP; rw [if_neg (fun hh => hh h0), hce]; simp only; rw [hth], hade, hkq.trans (hk2.mono hBw)⟩
  · rintro w' ⟨h0, ⟨locs, n, hce, hth, B2, lv, lm, st, regs, hB2, had⟩, hkq⟩
    obtain ⟨e0, e1, e2, _, ⟨ta, tc, ht, htm, hts⟩, _⟩ := hpar w' hkq
    have hlen := (headE_zero h0).1
    have hlen2 := (headE_zero h0).2
    have hnle := thrL_le (fun l hl => (hw.thr l hl).2) hth
    have hc := ckquestion_any had p ht e1 e2 (fun w2 hk2 => by
      obtain ⟨_, _, _, _, g2, _⟩ := hpar w2 (hkq.trans (hk2.mono hB2))
      exact ⟨IsTs.step (fun b hb hl => ⟨trivial, rfl⟩) g2, hw.thr⟩) (fun w2 hk2 => by
      obtain ⟨_, _, _, _, _, g3⟩ := hpar w2 (hkq.trans (hk2.mono hB2))
      exact LC.mono (fun _ _ _ => trivial) _ g3) hw.cond (by omega)
    refine hc.mono ?_
    rintro e w2 ⟨rfl, hade, hk2⟩
    by_cases ha : askE p locs = 0
    · exact .inl ⟨by rw [ha]; rfl, by unfold P.mayP; rw [if_neg (fun hh => hh h0), hce]; simp only; rw [hth]; simp only; rw [if_neg (fun hh => hh ha)], hkq.trans (hk2.mono hB2)⟩
    · exact .inr ⟨askE p locs, ha, rfl, n + 1, by unfold P.mayP; rw [if_neg (fun hh => hh h0), hce]; simp only; rw [hth]; simp only; rw [if_pos ha], hade, hkq.trans (hk2.mono hB2)⟩
end Go.Proofs.Ytlgnagmmljdkiab.Lx
/-
  May, as a contract.
-/

namespace Go.Proofs.Ytlgnagmmljdkiab.Lx
open Go.RowKit
open P (wth EX CO ST PG setsB regsL nodeE nodeC eachX eachXs eachC eachCs withinX withinC dpX dpXs dpC dpCs andE regE locE cellE headE celL thrL blkL Wk3 askE cntL mayP)
set_option maxRecDepth 100000
set_option linter.unusedVariables false
set_option linter.unusedSimpArgs false

theorem DBnew (w : World) (t : TypeId) (cs : Array Value) {g : Nat} (h : w.heap.size = g) : Blk (w.alloc (.cells cs t)) g t cs := by
  subst h
  exact Blk.new w t cs
/-- What May tells. -/
def MayTo (p : PG) (w : World) (e : Ending) (w' : World) : Prop := e = .returned (.tuple #[.int .i64 ((mayP p).1 : Nat), .int .i64 ((mayP p).2 : Nat)]) ∧ Below w.heap.size w w'
set_option maxHeartbeats 12800000 in
theorem may_any (p : PG) (v : Value) (w : World) (hv : LPg (fun _ => True) w v p) (hw : WfP p) :
    Calls Try.prog 12 #[v] w (MayTo p w) := by
  have hlp0 : LPg (fun k => k < w.heap.size) w v p := LPg.step (fun b hb hl => ⟨hl, rfl⟩) hv
  obtain ⟨vi, vt, o, t, s, n, ka, km, kc, rfl, g1, g2, g3⟩ := hv
  obtain ⟨ia, ic, rfl, him, _⟩ := g1
  obtain ⟨ta, tc, rfl, htm, _⟩ := g2
  generalize hil : p.init.length = il at *
  generalize htl : p.threads.length = tl at *
  have HB1 := Lib.hid (one_belowN w (.cells #[.string (bs p.name), .int .i64 p.vals, .slice ia il ic, .slice ta tl tc, .int .i64 p.ask, .int .i64 o, .int .i64 t, .string s, .int .i64 n, .slice ka km kc] 30))
  have hb2 : Below w.heap.size w (((w.alloc (.cells #[.string (bs p.name), .int .i64 p.vals, .slice ia il ic, .slice ta tl tc, .int .i64 p.ask, .int .i64 o, .int .i64 t, .string s, .int .i64 n, .slice ka km kc] 30)).alloc (.cells #[.string (bs p.name), .int .i64 p.vals, .slice ia il ic, .slice ta tl tc, .int .i64 p.ask, .int .i64 o, .int .i64 t, .string s, .int .i64 n, .slice ka km kc, .int .i64 0, .slice none 0 0, .map none, .slice none 0 0, .map none, .int .i64 0] 76)).alloc (.cells #[.func (.func 26) #[.pointer (some ⟨w.heap.size + 1, 0, none⟩)] #[], .func (.func 27) #[.pointer (some ⟨w.heap.size + 1, 0, none⟩)] #[], .func (.func 28) #[.pointer (some ⟨w.heap.size + 1, 0, none⟩)] #[], .func (.func 29) #[.pointer (some ⟨w.heap.size + 1, 0, none⟩)] #[]] 78)) := (((Below.refl w.heap.size w).alloc (Nat.le_refl _) _).alloc (by simp) _).alloc (by simp; omega) _
  have hsz1 : (((w.alloc (.cells #[.string (bs p.name), .int .i64 p.vals, .slice ia il ic, .slice ta tl tc, .int .i64 p.ask, .int .i64 o, .int .i64 t, .string s, .int .i64 n, .slice ka km kc] 30)).alloc (.cells #[.string (bs p.name), .int .i64 p.vals, .slice ia il ic, .slice ta tl tc, .int .i64 p.ask, .int .i64 o, .int .i64 t, .string s, .int .i64 n, .slice ka km kc, .int .i64 0, .slice none 0 0, .map none, .slice none 0 0, .map none, .int .i64 0] 76)).alloc (.cells #[.func (.func 26) #[.pointer (some ⟨w.heap.size + 1, 0, none⟩)] #[], .func (.func 27) #[.pointer (some ⟨w.heap.size + 1, 0, none⟩)] #[], .func (.func 28) #[.pointer (some ⟨w.heap.size + 1, 0, none⟩)] #[], .func (.func 29) #[.pointer (some ⟨w.heap.size + 1, 0, none⟩)] #[]] 78)).heap.size = w.heap.size + 3 := by simp
  have hbg : Blk (((w.alloc (.cells #[.string (bs p.name), .int .i64 p.vals, .slice ia il ic, .slice ta tl tc, .int .i64 p.ask, .int .i64 o, .int .i64 t, .string s, .int .i64 n, .slice ka km kc] 30)).alloc (.cells #[.string (bs p.name), .int .i64 p.vals, .slice ia il ic, .slice ta tl tc, .int .i64 p.ask, .int .i64 o, .int .i64 t, .string s, .int .i64 n, .slice ka km kc, .int .i64 0, .slice none 0 0, .map none, .slice none 0 0, .map none, .int .i64 0] 76)).alloc (.cells #[.func (.func 26) #[.pointer (some ⟨w.heap.size + 1, 0, none⟩)] #[], .func (.func 27) #[.pointer (some ⟨w.heap.size + 1, 0, none⟩)] #[], .func (.func 28) #[.pointer (some ⟨w.heap.size + 1, 0, none⟩)] #[], .func (.func 29) #[.pointer (some ⟨w.heap.size + 1, 0, none⟩)] #[]] 78)) (w.heap.size + 1 + 1) 78 #[.func (.func 26) #[.pointer (some ⟨w.heap.size + 1, 0, none⟩)] #[], .func (.func 27) #[.pointer (some ⟨w.heap.size + 1, 0, none⟩)] #[], .func (.func 28) #[.pointer (some ⟨w.heap.size + 1, 0, none⟩)] #[], .func (.func 29) #[.pointer (some ⟨w.heap.size + 1, 0, none⟩)] #[]] := DBnew _ _ _ (by simp)
  have hba : Blk (((w.alloc (.cells #[.string (bs p.name), .int .i64 p.vals, .slice ia il ic, .slice ta tl tc, .int .i64 p.ask, .int .i64 o, .int .i64 t, .string s, .int .i64 n, .slice ka km kc] 30)).alloc (.cells #[.string (bs p.name), .int .i64 p.vals, .slice ia il ic, .slice ta tl tc, .int .i64 p.ask, .int .i64 o, .int .i64 t, .string s, .int .i64 n, .slice ka km kc, .int .i64 0, .slice none 0 0, .map none, .slice none 0 0, .map none, .int .i64 0] 76)).alloc (.cells #[.func (.func 26) #[.pointer (some ⟨w.heap.size + 1, 0, none⟩)] #[], .func (.func 27) #[.pointer (some ⟨w.heap.size + 1, 0, none⟩)] #[], .func (.func 28) #[.pointer (some ⟨w.heap.size + 1, 0, none⟩)] #[], .func (.func 29) #[.pointer (some ⟨w.heap.size + 1, 0, none⟩)] #[]] 78)) (w.heap.size + 1) 76 #[.string (bs p.name), .int .i64 p.vals, .slice ia il ic, .slice ta tl tc, .int .i64 p.ask, .int .i64 o, .int .i64 t, .string s, .int .i64 n, .slice ka km kc, .int .i64 0, .slice none 0 0, .map none, .slice none 0 0, .map none, .int .i64 0] := (DBnew _ _ _ (by simp)).alloc _
  have hlp1 : ∀ w', Kq (w.heap.size + 3) (w.heap.size + 1) (((w.alloc (.cells #[.string (bs p.name), .int .i64 p.vals, .slice ia il ic, .slice ta tl tc, .int .i64 p.ask, .int .i64 o, .int .i64 t, .string s, .int .i64 n, .slice ka km kc] 30)).alloc (.cells #[.string (bs p.name), .int .i64 p.vals, .slice ia il ic, .slice ta tl tc, .int .i64 p.ask, .int .i64 o, .int .i64 t, .string s, .int .i64 n, .slice ka km kc, .int .i64 0, .slice none 0 0, .map none, .slice none 0 0, .map none, .int .i64 0] 76)).alloc (.cells #[.func (.func 26) #[.pointer (some ⟨w.heap.size + 1, 0, none⟩)] #[], .func (.func 27) #[.pointer (some ⟨w.heap.size + 1, 0, none⟩)] #[], .func (.func 28) #[.pointer (some ⟨w.heap.size + 1, 0, none⟩)] #[], .func (.func 29) #[.pointer (some ⟨w.heap.size + 1, 0, none⟩)] #[]] 78)) w' → Below w.heap.size w w' := fun w' hk => hb2.trans (hk.only.below (B := w.heap.size) (by rw [hsz1]; omega) (fun k hk' => by rintro (e | e) <;> omega))
  obtain ⟨h0, h1, h2, h3⟩ := may_four (B := w.heap.size + 3) (a := w.heap.size + 1) (sz := w.heap.size) (x := ⟨bs p.name, p.vals, .slice ia il ic, .slice ta tl tc, p.ask, o, t, s, n, ka, km, kc⟩) (p := p) (w1 := ((w.alloc (.cells #[.string (bs p.name), .int .i64 p.vals, .slice ia il ic, .slice ta tl tc, .int .i64 p.ask, .int .i64 o, .int .i64 t, .string s, .int .i64 n, .slice ka km kc] 30)).alloc (.cells #[.string (bs p.name), .int .i64 p.vals, .slice ia il ic, .slice ta tl tc, .int .i64 p.ask, .int .i64 o, .int .i64 t, .string s, .int .i64 n, .slice ka km kc, .int .i64 0, .slice none 0 0, .map none, .slice none 0 0, .map none, .int .i64 0] 76)).alloc (.cells #[.func (.func 26) #[.pointer (some ⟨w.heap.size + 1, 0, none⟩)] #[], .func (.func 27) #[.pointer (some ⟨w.heap.size + 1, 0, none⟩)] #[], .func (.func 28) #[.pointer (some ⟨w.heap.size + 1, 0, none⟩)] #[], .func (.func 29) #[.pointer (some ⟨w.heap.size + 1, 0, none⟩)] #[]] 78)) (Nat.le_succ _) rfl (fun w' hk => LPg.step (fun b hb hl => ⟨hb, (hlp1 w' hk).block b hl⟩) hlp0) hw (by omega)
  have HF := Lib.hid (first_any (w.heap.size + 1) (w.heap.size + 1 + 1) (((w.alloc (.cells #[.string (bs p.name), .int .i64 p.vals, .slice ia il ic, .slice ta tl tc, .int .i64 p.ask, .int .i64 o, .int .i64 t, .string s, .int .i64 n, .slice ka km kc] 30)).alloc (.cells #[.string (bs p.name), .int .i64 p.vals, .slice ia il ic, .slice ta tl tc, .int .i64 p.ask, .int .i64 o, .int .i64 t, .string s, .int .i64 n, .slice ka km kc, .int .i64 0, .slice none 0 0, .map none, .slice none 0 0, .map none, .int .i64 0] 76)).alloc (.cells #[.func (.func 26) #[.pointer (some ⟨w.heap.size + 1, 0, none⟩)] #[], .func (.func 27) #[.pointer (some ⟨w.heap.size + 1, 0, none⟩)] #[], .func (.func 28) #[.pointer (some ⟨w.heap.size + 1, 0, none⟩)] #[], .func (.func 29) #[.pointer (some ⟨w.heap.size + 1, 0, none⟩)] #[]] 78)) (MayS (w.heap.size + 3) (w.heap.size + 1) ⟨bs p.name, p.vals, .slice ia il ic, .slice ta tl tc, p.ask, o, t, s, n, ka, km, kc⟩ p (((w.alloc (.cells #[.string (bs p.name), .int .i64 p.vals, .slice ia il ic, .slice ta tl tc, .int .i64 p.ask, .int .i64 o, .int .i64 t, .string s, .int .i64 n, .slice ka km kc] 30)).alloc (.cells #[.string (bs p.name), .int .i64 p.vals, .slice ia il ic, .slice ta tl tc, .int .i64 p.ask, .int .i64 o, .int .i64 t, .string s, .int .i64 n, .slice ka km kc, .int .i64 0, .slice none 0 0, .map none, .slice none 0 0, .map none, .int .i64 0] 76)).alloc (.cells #[.func (.func 26) #[.pointer (some ⟨w.heap.size + 1, 0, none⟩)] #[], .func (.func 27) #[.pointer (some ⟨w.heap.size + 1, 0, none⟩)] #[], .func (.func 28) #[.pointer (some ⟨w.heap.size + 1, 0, none⟩)] #[], .func (.func 29) #[.pointer (some ⟨w.heap.size + 1, 0, none⟩)] #[]] 78))) (MayT (w.heap.size + 3) (w.heap.size + 1) p (((w.alloc (.cells #[.string (bs p.name), .int .i64 p.vals, .slice ia il ic, .slice ta tl tc, .int .i64 p.ask, .int .i64 o, .int .i64 t, .string s, .int .i64 n, .slice ka km kc] 30)).alloc (.cells #[.string (bs p.name), .int .i64 p.vals, .slice ia il ic, .slice ta tl tc, .int .i64 p.ask, .int .i64 o, .int .i64 t, .string s, .int .i64 n, .slice ka km kc, .int .i64 0, .slice none 0 0, .map none, .slice none 0 0, .map none, .int .i64 0] 76)).alloc (.cells #[.func (.func 26) #[.pointer (some ⟨w.heap.size + 1, 0, none⟩)] #[], .func (.func 27) #[.pointer (some ⟨w.heap.size + 1, 0, none⟩)] #[], .func (.func 28) #[.pointer (some ⟨w.heap.size + 1, 0, none⟩)] #[], .func (.func 29) #[.pointer (some ⟨w.heap.size + 1, 0, none⟩)] #[]] 78))) (fun j w' hS => (MayS.kq hS).keep (w.heap.size + 1 + 1) _ _ (by omega) (by decide) hbg) h0 h1 h2 h3 (show Al _ _ _ _ _ _ _ ∧ Kq _ _ _ _ from ⟨⟨⟨_, _, hba, nmvNil _ _⟩, by omega, by rw [hsz1]; exact Nat.le_refl _⟩, Kq.refl _ _ _⟩))
  have HBE := Lib.hid hlp1
  clear g3 hil htl him htm hlp0 hw h0 h1 h2 h3 hb2 hbg hba hsz1 hlp1
  have hbx := Blk.new w 30 #[.string (bs p.name), .int .i64 p.vals, .slice ia il ic, .slice ta tl tc, .int .i64 p.ask, .int .i64 o, .int .i64 t, .string s, .int .i64 n, .slice ka km kc]
  have q0 : (w.alloc (.cells #[.string (bs p.name), .int .i64 p.vals, .slice ia il ic, .slice ta tl tc, .int .i64 p.ask, .int .i64 o, .int .i64 t, .string s, .int .i64 n, .slice ka km kc] 30)).cell? ⟨w.heap.size, 0, none⟩ = some (.string (bs p.name)) := hbx.cell 0
  have q1 : (w.alloc (.cells #[.string (bs p.name), .int .i64 p.vals, .slice ia il ic, .slice ta tl tc, .int .i64 p.ask, .int .i64 o, .int .i64 t, .string s, .int .i64 n, .slice ka km kc] 30)).cell? ⟨w.heap.size, 1, none⟩ = some (.int .i64 p.vals) := hbx.cell 1
  have q2 : (w.alloc (.cells #[.string (bs p.name), .int .i64 p.vals, .slice ia il ic, .slice ta tl tc, .int .i64 p.ask, .int .i64 o, .int .i64 t, .string s, .int .i64 n, .slice ka km kc] 30)).cell? ⟨w.heap.size, 2, none⟩ = some (.slice ia il ic) := hbx.cell 2
  have q3 : (w.alloc (.cells #[.string (bs p.name), .int .i64 p.vals, .slice ia il ic, .slice ta tl tc, .int .i64 p.ask, .int .i64 o, .int .i64 t, .string s, .int .i64 n, .slice ka km kc] 30)).cell? ⟨w.heap.size, 3, none⟩ = some (.slice ta tl tc) := hbx.cell 3
  have q4 : (w.alloc (.cells #[.string (bs p.name), .int .i64 p.vals, .slice ia il ic, .slice ta tl tc, .int .i64 p.ask, .int .i64 o, .int .i64 t, .string s, .int .i64 n, .slice ka km kc] 30)).cell? ⟨w.heap.size, 4, none⟩ = some (.int .i64 p.ask) := hbx.cell 4
  have q5 : (w.alloc (.cells #[.string (bs p.name), .int .i64 p.vals, .slice ia il ic, .slice ta tl tc, .int .i64 p.ask, .int .i64 o, .int .i64 t, .string s, .int .i64 n, .slice ka km kc] 30)).cell? ⟨w.heap.size, 5, none⟩ = some (.int .i64 o) := hbx.cell 5
  have q6 : (w.alloc (.cells #[.string (bs p.name), .int .i64 p.vals, .slice ia il ic, .slice ta tl tc, .int .i64 p.ask, .int .i64 o, .int .i64 t, .string s, .int .i64 n, .slice ka km kc] 30)).cell? ⟨w.heap.size, 6, none⟩ = some (.int .i64 t) := hbx.cell 6
  have q7 : (w.alloc (.cells #[.string (bs p.name), .int .i64 p.vals, .slice ia il ic, .slice ta tl tc, .int .i64 p.ask, .int .i64 o, .int .i64 t, .string s, .int .i64 n, .slice ka km kc] 30)).cell? ⟨w.heap.size, 7, none⟩ = some (.string s) := hbx.cell 7
  have q8 : (w.alloc (.cells #[.string (bs p.name), .int .i64 p.vals, .slice ia il ic, .slice ta tl tc, .int .i64 p.ask, .int .i64 o, .int .i64 t, .string s, .int .i64 n, .slice ka km kc] 30)).cell? ⟨w.heap.size, 8, none⟩ = some (.int .i64 n) := hbx.cell 8
  have q9 : (w.alloc (.cells #[.string (bs p.name), .int .i64 p.vals, .slice ia il ic, .slice ta tl tc, .int .i64 p.ask, .int .i64 o, .int .i64 t, .string s, .int .i64 n, .slice ka km kc] 30)).cell? ⟨w.heap.size, 9, none⟩ = some (.slice ka km kc) := hbx.cell 9
  clear hbx
  go_enter Try.func12, Try.ntmps12
  go_wp2_with fail
  with_reducible refine HF.out.mono ?_
  clear q0 q1 q2 q3 q4 q5 q6 q7 q8 q9
  rintro e w2 (⟨rfl, hmp, hk⟩ | ⟨m, hm, rfl, q, hmp, hade, hk⟩)
  · have HE := Lib.hid (HBE.out w2 hk)
    have HM := Lib.hid hmp
    clear hk hmp HF HBE
    go_wp2_with fail
    go_ret2
    exact ⟨by rw [HM.out]; rfl, HE.out⟩
  · have HE := Lib.hid (HBE.out w2 hk)
    have HM := Lib.hid hmp
    obtain ⟨f1, f2, f3⟩ := er_flags hm
    obtain ⟨cs, hb, hc⟩ := hade
    have b10 : w2.cell? ⟨w.heap.size + 1, 10, none⟩ = some (.int .i64 (q : Nat)) := (hb.cell 10).trans hc
    clear hk hmp hb hc hm HF HBE
    go_wp2_with fail
    go_quiet (fail)
    go_wp2_with fail
    go_ret2
    exact ⟨by rw [HM.out]; rfl, HE.out.trans ((bel_drewNK _ _).mono HE.out.size)⟩
end Go.Proofs.Ytlgnagmmljdkiab.Lx
/-
  Stmts and Regs, as contracts.
-/

namespace Go.Proofs.Ytlgnagmmljdkiab.Lx
open Go.RowKit
open P (wth EX CO ST PG setsB regsL nodeE nodeC eachX eachXs eachC eachCs withinX withinC dpX dpXs dpC dpCs andE regE locE cntL cntS)
set_option maxRecDepth 100000
set_option linter.unusedVariables false
set_option linter.unusedSimpArgs false

theorem row_low {w : World} {b b' : Nat} {t : TypeId} {sz n : Nat} {v : Value} {xs : List Value} (hb : b ≤ b') (h : w.ownsRow b' t sz v n xs) : w.ownsRow b t sz v n xs := by
  refine ⟨h.1, ?_⟩
  rcases h.2 with h2 | ⟨g, cap, cur, hv, hg, hh⟩
  · exact .inl h2
  · exact .inr ⟨g, cap, cur, hv, Nat.le_trans hb hg, hh⟩
theorem cntL_take {ss : List ST} {j : Nat} {s : ST} (h : ss[j]? = some s) : cntL (ss.take (j + 1)) = cntL (ss.take j) + cntS s := by
  induction ss generalizing j with
  | nil => simp at h
  | cons x ss ih =>
    cases j with
    | zero =>
      simp at h
      subst h
      simp only [List.take_succ_cons, List.take_zero, P.cntL]
      omega
    | succ j =>
      rw [List.take_succ_cons, List.take_succ_cons, P.cntL, P.cntL, ih (by simpa using h)]
      omega
theorem rowS_any {w : World} {a : Option Addr} {es : List ST} (h : RowS (fun _ => True) w a es) : RowS (fun k => k < w.heap.size) w a es := by
  rcases h with h0 | ⟨g, off, e, _, hs⟩
  · exact .inl h0
  · by_cases hle : es = []
    · exact .inl hle
    · cases es with
      | nil => exact absurd rfl hle
      | cons e0 es0 =>
        obtain ⟨e1, c0, _, _, _, _, _, _, _, hc0, _⟩ := LSs.at _ hs 0 (by simp)
        exact .inr ⟨g, off, e, World.block_lt_of_cell? w _ hc0, LSs.mono (fun k _ hk => hk) _ hs⟩
theorem RowS.low {w w' : World} {a : Option Addr} {es : List ST} (h : RowS (fun _ => True) w a es) (hb : Below w.heap.size w w') : RowS (fun _ => True) w' a es := h.keep (fun g _ hl => hb.block g hl)
set_option maxHeartbeats 12800000 in
theorem ckstmts_any : ∀ (N : Nat) (es : List ST), sizeSs es < N → ∀ (a : Option Addr) (ca : Nat) (w : World), RowS (fun _ => True) w a es → es.length ≤ maxLen → cntL es ≤ 1000000 →
    Calls Try.prog 13 #[.slice a es.length ca] w (fun e w' => e = .returned (.int .i64 (cntL es : Nat)) ∧ Below w.heap.size w w')
  | 0, es, hN, a, ca, w, _, _, _ => by omega
  | N + 1, es, hN, a, ca, w, hrow, hm, hcnt => by
    have IH := Lib.hid (ckstmts_any N)
    have HSZ := Lib.hid (show ∀ i e, es[i]? = some e → ST.size e ≤ N from fun i e he => by
      have h1 := sizes_mem es i e he
      omega)
    have HR := Lib.hid hrow
    have hlc := P.len_cnt es
    unfold maxLen at hm
    clear hrow hN
    go_enter Try.func13, Try.ntmps13
    go_wp2_with fail
    go_loopw [3, 10] (fun n i wr => ∃ j m : Nat, n = .int .i64 (m : Nat) ∧ i = .int .i64 (j : Nat) ∧ j ≤ es.length ∧ m + j = es.length + cntL (es.take j) ∧ Below w.heap.size w wr) (fun _ i _ => es.length - (intOf i).toNat)
    case atStart => exact ⟨0, es.length, rfl, rfl, Nat.zero_le _, by rw [List.take_zero, P.cntL], Below.refl _ _⟩
    case round =>
      obtain ⟨j, m, rfl, rfl, hj, hmj, hb⟩ := hrel
      have HBr := Lib.hid hb
      have HRr := Lib.hid (HR.out.low hb)
      by_cases hlt : j < es.length
      · obtain ⟨ga, oa, rfl, hs⟩ : ∃ ga oa, a = some ⟨ga, oa, none⟩ ∧ LSs (fun _ => True) wr ga oa es := by
          rcases HRr.out with h0 | ⟨g, off, e, _, h1⟩
          · rw [h0] at hlt
            simp at hlt
          · exact ⟨g, off, e, h1⟩
        obtain ⟨s, k0, k1, k2, k3, k4, k5, k6, hs0, c0, c1, c2, c3, c4, c5, c6, hls⟩ := LSs.at es hs j hlt
        have hcm := cntL_mem hs0
        have hct := cntL_take hs0
        have hszs := HSZ.out j s hs0
        obtain ⟨kd, md, rg, lc, ar, th, el⟩ := s
        unfold LS at hls
        obtain ⟨aa, ca', at', ct, ae, ce, hv, m1, m2, m3, l1, l2, l3⟩ := hls
        injection hv with hv
        injection hv with hv
        injection hv with e0 hv
        injection hv with e1 hv
        injection hv with e2 hv
        injection hv with e3 hv
        injection hv with e4 hv
        injection hv with e5 hv
        injection hv with e6 hv
        subst e0 e1 e2 e3 e4 e5 e6
        clear hv
        unfold ST.size at hszs
        have hcs : cntS (.mk kd md rg lc ar th el) = 1 + cntL th + cntL el := by rw [P.cntS]
        have hnext : (m + (cntL th + cntL el)) + (j + 1) = es.length + cntL (es.take (j + 1)) := by omega
        have hb1 : cntL th + cntL el ≤ 1000000 := by omega
        have hb2 : m ≤ 5000000 := by omega
        have HNX := Lib.hid hnext
        have hbx := one_belowN wr (.cells #[.int .i64 kd, .int .i64 md, .string (bs rg), .string (bs lc), .slice aa ar.length ca', .slice at' th.length ct, .slice ae el.length ce] 45)
        have HBX := Lib.hid (Blk.new wr 45 #[.int .i64 kd, .int .i64 md, .string (bs rg), .string (bs lc), .slice aa ar.length ca', .slice at' th.length ct, .slice ae el.length ce])
        have HBB := Lib.hid (hb.trans (hbx.mono hb.size))
        have hl2 := (show RowS (fun _ => True) wr at' th from l2).low hbx
        have hl3 := (show RowS (fun _ => True) wr ae el from l3).low hbx
        have d1 : (0 : Int) ≤ (j : Int) := by omega
        have d2 : (j : Int) < (es.length : Int) := by omega
        have d3 : decide ((j : Int) < (es.length : Int)) = true := decide_eq_true (by omega)
        have d4 : decide (j < es.length) = true := decide_eq_true (by omega)
        go_upto_region 5 with (fail)
        have HT := Lib.hid (fun w' (hw : Below (wr.alloc (.cells #[.int .i64 kd, .int .i64 md, .string (bs rg), .string (bs lc), .slice aa ar.length ca', .slice at' th.length ct, .slice ae el.length ce] 45)).heap.size (wr.alloc (.cells #[.int .i64 kd, .int .i64 md, .string (bs rg), .string (bs lc), .slice aa ar.length ca', .slice at' th.length ct, .slice ae el.length ce] 45)) w') => (IH.out th (by omega) at' ct w' (hl2.low hw) m2 (by omega)).mono (fun e w2 hh => (⟨hh.1, hw.trans (hh.2.mono hw.size)⟩ : _ ∧ Below (wr.alloc (.cells #[.int .i64 kd, .int .i64 md, .string (bs rg), .string (bs lc), .slice aa ar.length ca', .slice at' th.length ct, .slice ae el.length ce] 45)).heap.size (wr.alloc (.cells #[.int .i64 kd, .int .i64 md, .string (bs rg), .string (bs lc), .slice aa ar.length ca', .slice at' th.length ct, .slice ae el.length ce] 45)) w2)))
        have HE := Lib.hid (fun w' (hw : Below (wr.alloc (.cells #[.int .i64 kd, .int .i64 md, .string (bs rg), .string (bs lc), .slice aa ar.length ca', .slice at' th.length ct, .slice ae el.length ce] 45)).heap.size (wr.alloc (.cells #[.int .i64 kd, .int .i64 md, .string (bs rg), .string (bs lc), .slice aa ar.length ca', .slice at' th.length ct, .slice ae el.length ce] 45)) w') => (IH.out el (by omega) ae ce w' (hl3.low hw) m3 (by omega)).mono (fun e w2 hh => (⟨hh.1, hw.trans (hh.2.mono hw.size)⟩ : _ ∧ Below (wr.alloc (.cells #[.int .i64 kd, .int .i64 md, .string (bs rg), .string (bs lc), .slice aa ar.length ca', .slice at' th.length ct, .slice ae el.length ce] 45)).heap.size (wr.alloc (.cells #[.int .i64 kd, .int .i64 md, .string (bs rg), .string (bs lc), .slice aa ar.length ca', .slice at' th.length ct, .slice ae el.length ce] 45)) w2)))
        clear hs hs0 hcm hct hszs hcs hnext l1 l2 l3 m1 m2 m3 hl2 hl3 hb hbx hmj c0 c1 c2 c3 c4 c5 c6 HSZ IH HR HRr HBr
        generalize wr.alloc (.cells #[.int .i64 kd, .int .i64 md, .string (bs rg), .string (bs lc), .slice aa ar.length ca', .slice at' th.length ct, .slice ae el.length ce] 45) = W at *
        have HX := Lib.hid (show ∀ w', Below W.heap.size W w' → w'.cell? ⟨wr.heap.size, 5, none⟩ = some (.slice at' th.length ct) ∧ w'.cell? ⟨wr.heap.size, 6, none⟩ = some (.slice ae el.length ce) from fun w' hw => ⟨(HBX.out.live' hw).cell 5, (HBX.out.live' hw).cell 6⟩)
        have hb0 : Below W.heap.size W W := Below.refl _ _
        have hbD : Below W.heap.size W W.drew := (Below.refl _ _).drew
        have HK0 := Lib.hid (HX.out W (Below.refl _ _))
        have HKD := Lib.hid (HX.out W.drew hbD)
        generalize hct1 : cntL th = CT at *
        generalize hce1 : cntL el = CE1 at *
        clear hct1 hce1
        have w1 : IntKind.i64.wrap ((CT : Int) + (CE1 : Int)) = (CT : Int) + (CE1 : Int) := IntWalk.i64_in _ (by omega)
        have w2' : IntKind.i64.wrap ((m : Int) + ((CT : Int) + (CE1 : Int))) = (m : Int) + ((CT : Int) + (CE1 : Int)) := IntWalk.i64_in _ (by omega)
        go_region_held3 (fun w' => w'.cell? ⟨wr.heap.size, 5, none⟩ = some (.slice at' th.length ct) ∧ w'.cell? ⟨wr.heap.size, 6, none⟩ = some (.slice ae el.length ce))
          (first
            | with_reducible exact HK0.out
            | with_reducible exact HKD.out
            | with_reducible assumption
            | go_keep)
          (first
            | (go_at_call 13; (with_reducible refine (HT.out _ (by assumption)).mono ?_); rintro e w20 ⟨rfl, hb20⟩; have hS20 := HX.out w20 hb20)
            | (go_at_call 13; (with_reducible refine (HE.out _ (by assumption)).mono ?_); rintro e w21 ⟨rfl, hb21⟩; have hS21 := HX.out w21 hb21))
        all_goals
          go_wp2_with fail
          go_roundw
          case rel => exact ⟨j + 1, m + (CT + CE1), by go_num, by go_num, by omega, HNX.out, HBB.out.trans (Below.mono (by assumption) HBB.out.size)⟩
          case measure => simp [intOf]; omega
      · obtain rfl : j = es.length := by omega
        rw [List.take_length] at hmj
        obtain rfl : m = cntL es := by omega
        clear hlt hmj
        go_wp2_with fail
        go_ret
        exact ⟨rfl, HBr.out⟩
/-- What Regs tells. -/
def RegsTo (rs : List (List UInt8)) (w : World) (e : Ending) (w' : World) : Prop := ∃ v, e = .returned v ∧ w'.ownsRow w.heap.size 9 1 v rs.length (strs rs) ∧ Below w.heap.size w w'
set_option maxHeartbeats 6400000 in
theorem ckregs_any (es : List ST) (a : Option Addr) (ca : Nat) (w : World) (hrow : RowS (fun _ => True) w a es) (hm : es.length ≤ maxLen) (hcnt : cntL es ≤ 1000000) (hwf : wfSs es) :
    Calls Try.prog 22 #[.slice a es.length ca] w (RegsTo (regsL [] es) w) := by
  have hb := one_belowN w (.cells #[.slice none 0 0, .map none] 74)
  have hbk := Blk.new w 74 #[.slice none 0 0, .map none]
  have hrw : RowS (fun k => k < w.heap.size + 1 ∧ k ≠ w.heap.size) (w.alloc (.cells #[.slice none 0 0, .map none] 74)) a es := by
    have h1 := (rowS_any hrow).keep (w' := w.alloc (.cells #[.slice none 0 0, .map none] 74)) (fun g hg hl => hb.block g hl)
    rcases h1 with h0 | ⟨g, off, e, hg, hs⟩
    · exact .inl h0
    · exact .inr ⟨g, off, e, ⟨by have : g < w.heap.size := hg; omega, by have : g < w.heap.size := hg; omega⟩, LSs.mono (fun k hk _ => ⟨by have : k < w.heap.size := hk; omega, by have : k < w.heap.size := hk; omega⟩) _ hs⟩
  have HA := Lib.hid (addSet_any (w.heap.size + 1) w.heap.size 0 74 #[.slice none 0 0, .map none] (by decide) (by decide) (sizeSs es + 1) es (Nat.lt_succ_self _) [] a ca _ ⟨.slice none 0 0, none, hbk, nmvNil _ _⟩ hrw (by simp) hm (by simp only [List.length_nil]; omega) hwf)
  have HB := Lib.hid hb
  clear hb hbk hrw hrow hwf
  go_enter Try.func22, Try.ntmps22
  go_wp2_with fail
  with_reducible refine HA.out.mono ?_
  rintro e w2 ⟨rfl, ⟨v, mm, hbk2, hnm⟩, hk⟩
  have HBE := Lib.hid (HB.out.trans (hk.only.below (B := w.heap.size) HB.out.size (fun k hk' => by rintro (e | e) <;> omega)))
  have HROW := Lib.hid hnm.row
  obtain ⟨av, cv, rfl⟩ := slice_of_own hnm.row
  have q0 : w2.cell? ⟨w.heap.size, 0, none⟩ = some (.slice av (regsL [] es).length cv) := hbk2.cell 0
  clear hbk2 hnm hk HA
  go_wp2_with fail
  go_ret
  exact ⟨.slice av (regsL [] es).length cv, rfl, row_low (Nat.le_succ _) HROW.out, HBE.out⟩
end Go.Proofs.Ytlgnagmmljdkiab.Lx
/-
  That check does something: begun.
-/

namespace Go.Proofs.Ytlgnagmmljdkiab.Lx
open Go.RowKit
open P (wth EX CO ST PG setsB regsL nodeE nodeC eachX eachXs eachC eachCs withinX withinC dpX dpXs dpC dpCs andE regE locE mayP cntL)
set_option maxRecDepth 100000
set_option linter.unusedVariables false
set_option linter.unusedSimpArgs false

theorem four_newK (w : World) (t1 t2 t3 t4 : TypeId) (c1 c2 c3 c4 : Array Value) :
    Below w.heap.size w ((((w.alloc (.cells c1 t1)).alloc (.cells c2 t2)).alloc (.cells c3 t3)).alloc (.cells c4 t4)) ∧ Blk ((((w.alloc (.cells c1 t1)).alloc (.cells c2 t2)).alloc (.cells c3 t3)).alloc (.cells c4 t4)) w.heap.size t1 c1 ∧ Blk ((((w.alloc (.cells c1 t1)).alloc (.cells c2 t2)).alloc (.cells c3 t3)).alloc (.cells c4 t4)) (w.heap.size + 1) t2 c2 ∧ Blk ((((w.alloc (.cells c1 t1)).alloc (.cells c2 t2)).alloc (.cells c3 t3)).alloc (.cells c4 t4)) (w.heap.size + 1 + 1) t3 c3 ∧ Blk ((((w.alloc (.cells c1 t1)).alloc (.cells c2 t2)).alloc (.cells c3 t3)).alloc (.cells c4 t4)) (w.heap.size + 1 + 1 + 1) t4 c4 := by
  have h2 := Blk.new (w.alloc (.cells c1 t1)) t2 c2
  rw [show (w.alloc (.cells c1 t1)).heap.size = w.heap.size + 1 by simp] at h2
  have h3 := Blk.new ((w.alloc (.cells c1 t1)).alloc (.cells c2 t2)) t3 c3
  rw [show ((w.alloc (.cells c1 t1)).alloc (.cells c2 t2)).heap.size = w.heap.size + 1 + 1 by simp] at h3
  have h4 := Blk.new (((w.alloc (.cells c1 t1)).alloc (.cells c2 t2)).alloc (.cells c3 t3)) t4 c4
  rw [show (((w.alloc (.cells c1 t1)).alloc (.cells c2 t2)).alloc (.cells c3 t3)).heap.size = w.heap.size + 1 + 1 + 1 by simp] at h4
  exact ⟨((((Below.refl _ _).alloc (Nat.le_refl _) _).alloc (by simp) _).alloc (by simp; omega) _).alloc (by simp; omega) _, (((Blk.new w t1 c1).alloc _).alloc _).alloc _, (h2.alloc _).alloc _, h3.alloc _, h4⟩
def pgA : PG := ⟨[97], 2, [([120], 0)], [[.mk 2 0 [114] [120] [] [] []]], 1, .mk 2 0 [114] 1 []⟩
def pgB : PG := ⟨[97], 2, [], [[.mk 6 4 [] [] [] [] [], .mk 2 0 [114] [120] [] [] []]], 0, .mk 0 0 [] 0 []⟩
theorem pgA_may : mayP pgA = (0, 0) := by decide +kernel
theorem pgB_may : mayP pgB = (4, 2) := by decide +kernel
theorem pgA_regs : regsL [] [.mk 2 0 [114] [120] [] [] []] = [[114]] := by decide +kernel
theorem pgA_cnt : cntL [.mk 2 0 [114] [120] [] [] []] = 1 := by decide +kernel
theorem w64_few {n : Int} (h : 0 ≤ n) (h' : n ≤ 1000) : W64 n := ⟨by omega, by omega⟩
theorem st_wf {k m : Int} {r l : List UInt8} (h1 : 0 ≤ k ∧ k ≤ 1000) (h2 : 0 ≤ m ∧ m ≤ 1000) (h3 : r.length ≤ maxLen) (h4 : l.length ≤ maxLen) : wfS (.mk k m r l [] [] []) := by
  unfold wfS
  exact ⟨w64_few h1.1 h1.2, w64_few h2.1 h2.2, h3, h4, trivial, trivial, trivial⟩
theorem pgA_wf : WfP pgA := by
  refine ⟨by decide, fun c hc => ?_, fun l hl => ?_, ?_⟩
  · rw [List.mem_singleton.1 hc]
    decide
  · rw [List.mem_singleton.1 hl]
    exact ⟨⟨st_wf (by decide) (by decide) (by decide) (by decide), trivial⟩, by decide +kernel⟩
  · show wfC (.mk 2 0 [114] 1 [])
    unfold wfC
    exact ⟨w64_few (by decide) (by decide), w64_few (by decide) (by decide), by decide, w64_few (by decide) (by decide), trivial⟩
theorem pgB_wf : WfP pgB := by
  refine ⟨by decide, fun c hc => (by cases hc), fun l hl => ?_, ?_⟩
  · rw [List.mem_singleton.1 hl]
    exact ⟨⟨st_wf (by decide) (by decide) (by decide) (by decide), st_wf (by decide) (by decide) (by decide) (by decide), trivial⟩, by decide +kernel⟩
  · show wfC (.mk 0 0 [] 0 [])
    unfold wfC
    exact ⟨w64_few (by decide) (by decide), w64_few (by decide) (by decide), by decide, w64_few (by decide) (by decide), trivial⟩
theorem lc9 {w : World} {o n : Int} {s : List UInt8} : LC (fun _ => True) w (.agg #[.int .i64 o, .int .i64 0, .string (bs s), .int .i64 n, .slice none 0 0]) (.mk o 0 s n []) := by
  unfold LC
  exact ⟨none, 0, rfl, by decide, .inl rfl⟩
theorem ls9 {w : World} {k m : Int} {r l : List UInt8} : LS (fun _ => True) w (.agg #[.int .i64 k, .int .i64 m, .string (bs r), .string (bs l), .slice none 0 0, .slice none 0 0, .slice none 0 0]) (.mk k m r l [] [] []) := by
  unfold LS
  exact ⟨none, 0, none, 0, none, 0, rfl, by decide, by decide, by decide, .inl rfl, .inl rfl, .inl rfl⟩
theorem row9 {w : World} {g : Nat} {t : TypeId} (hs : Blk w g t #[.int .i64 2, .int .i64 0, .string ⟨#[114]⟩, .string ⟨#[120]⟩, .slice none 0 0, .slice none 0 0, .slice none 0 0]) : RowS (fun _ => True) w (some ⟨g, 0, none⟩) [.mk 2 0 [114] [120] [] [] []] := by
  refine .inr ⟨g, 0, rfl, trivial, ?_⟩
  unfold LSs
  exact ⟨⟨_, _, _, _, _, _, _, hs.cell 0, hs.cell 1, hs.cell 2, hs.cell 3, hs.cell 4, hs.cell 5, hs.cell 6, ls9⟩, trivial⟩
theorem lpA {w : World} {gi gs gt : Nat} {ti ts tt : TypeId} (hi : Blk w gi ti #[.string ⟨#[120]⟩, .int .i64 0]) (hs : Blk w gs ts #[.int .i64 2, .int .i64 0, .string ⟨#[114]⟩, .string ⟨#[120]⟩, .slice none 0 0, .slice none 0 0, .slice none 0 0]) (ht : Blk w gt tt #[.slice (some ⟨gs, 0, none⟩) 1 1]) : LPg (fun _ => True) w (.agg #[.string ⟨#[97]⟩, .int .i64 2, .slice (some ⟨gi, 0, none⟩) 1 1, .slice (some ⟨gt, 0, none⟩) 1 1, .int .i64 1, .int .i64 2, .int .i64 0, .string ⟨#[114]⟩, .int .i64 1, .slice none 0 0]) pgA := by
  refine ⟨_, _, _, _, _, _, _, _, _, rfl, ⟨some ⟨gi, 0, none⟩, 1, rfl, by decide, .inr ⟨gi, 0, rfl, trivial, ?_⟩⟩, ⟨some ⟨gt, 0, none⟩, 1, rfl, by decide, .inr ⟨gt, 0, rfl, trivial, ?_⟩⟩, lc9⟩
  · show LEs w gi 0 [([120], 0)]
    unfold LEs
    exact ⟨⟨hi.cell 0, hi.cell 1⟩, trivial⟩
  · show LTs (fun _ => True) w gt 0 [[.mk 2 0 [114] [120] [] [] []]]
    unfold LTs
    exact ⟨⟨_, ht.cell 0, some ⟨gs, 0, none⟩, 1, rfl, by decide, row9 hs⟩, trivial⟩
theorem lpB {w : World} {gs gt : Nat} {ts tt : TypeId} (hs : Blk w gs ts #[.int .i64 6, .int .i64 4, .string ⟨#[]⟩, .string ⟨#[]⟩, .slice none 0 0, .slice none 0 0, .slice none 0 0, .int .i64 2, .int .i64 0, .string ⟨#[114]⟩, .string ⟨#[120]⟩, .slice none 0 0, .slice none 0 0, .slice none 0 0]) (ht : Blk w gt tt #[.slice (some ⟨gs, 0, none⟩) 2 2]) : LPg (fun _ => True) w (.agg #[.string ⟨#[97]⟩, .int .i64 2, .slice none 0 0, .slice (some ⟨gt, 0, none⟩) 1 1, .int .i64 0, .int .i64 0, .int .i64 0, .string ⟨#[]⟩, .int .i64 0, .slice none 0 0]) pgB := by
  refine ⟨_, _, _, _, _, _, _, _, _, rfl, ⟨none, 0, rfl, by decide, .inl rfl⟩, ⟨some ⟨gt, 0, none⟩, 1, rfl, by decide, .inr ⟨gt, 0, rfl, trivial, ?_⟩⟩, lc9⟩
  show LTs (fun _ => True) w gt 0 [[.mk 6 4 [] [] [] [] [], .mk 2 0 [114] [120] [] [] []]]
  unfold LTs
  refine ⟨⟨_, ht.cell 0, some ⟨gs, 0, none⟩, 2, rfl, by decide, .inr ⟨gs, 0, rfl, trivial, ?_⟩⟩, trivial⟩
  unfold LSs
  refine ⟨⟨_, _, _, _, _, _, _, hs.cell 0, hs.cell 1, hs.cell 2, hs.cell 3, hs.cell 4, hs.cell 5, hs.cell 6, ls9⟩, ?_⟩
  unfold LSs
  exact ⟨⟨_, _, _, _, _, _, _, hs.cell 7, hs.cell 8, hs.cell 9, hs.cell 10, hs.cell 11, hs.cell 12, hs.cell 13, ls9⟩, trivial⟩
theorem mayA (v : Value) (w : World) (hv : LPg (fun _ => True) w v pgA) : Calls Try.prog 12 #[v] w (fun e w' => e = .returned (.tuple #[.int .i64 0, .int .i64 0]) ∧ Below w.heap.size w w') := by
  refine (may_any pgA v w hv pgA_wf).mono ?_
  rintro e w' ⟨h1, h2⟩
  rw [pgA_may] at h1
  exact ⟨h1, h2⟩
theorem mayB (v : Value) (w : World) (hv : LPg (fun _ => True) w v pgB) : Calls Try.prog 12 #[v] w (fun e w' => e = .returned (.tuple #[.int .i64 4, .int .i64 2]) ∧ Below w.heap.size w w') := by
  refine (may_any pgB v w hv pgB_wf).mono ?_
  rintro e w' ⟨h1, h2⟩
  rw [pgB_may] at h1
  exact ⟨h1, h2⟩
/-- One register's name in memory. -/
def One9 (w : World) (e : Ending) (w' : World) : Prop := ∃ g c, e = .returned (.slice (some ⟨g, 0, none⟩) 1 c) ∧ w'.cell? ⟨g, 0, none⟩ = some (.string ⟨#[114]⟩) ∧ Below w.heap.size w w'
theorem own_one {w : World} {b : Nat} {v : Value} (h : w.ownsRow b 9 1 v 1 (strs [[114]])) : ∃ g c, v = .slice (some ⟨g, 0, none⟩) 1 c ∧ w.cell? ⟨g, 0, none⟩ = some (.string ⟨#[114]⟩) := by
  rcases h.2 with ⟨_, h2⟩ | ⟨g, cap, cur, hv, hg, hh, _, _, _, htk⟩
  · cases h2
  · refine ⟨g, cap, hv, ?_⟩
    have hb : Blk w g 9 cur := hh
    rw [hb.cell 0]
    have h0 : (cur.toList.take (1 * 1))[0]? = some (.string ⟨#[114]⟩) := by rw [htk]; rfl
    rw [List.getElem?_take] at h0
    simpa using h0
theorem regsA (g c : Nat) (w : World) (hr : RowS (fun _ => True) w (some ⟨g, 0, none⟩) [.mk 2 0 [114] [120] [] [] []]) : Calls Try.prog 22 #[.slice (some ⟨g, 0, none⟩) 1 c] w (One9 w) := by
  refine (ckregs_any [.mk 2 0 [114] [120] [] [] []] _ c w hr (by decide) (by decide +kernel) ⟨st_wf (by decide) (by decide) (by decide) (by decide), trivial⟩).mono ?_
  rintro e w' ⟨v, rfl, hown, hb⟩
  rw [pgA_regs] at hown
  obtain ⟨g', c', rfl, hc⟩ := own_one hown
  exact ⟨g', c', rfl, hc, hb⟩
theorem stmtsA (g c : Nat) (w : World) (hr : RowS (fun _ => True) w (some ⟨g, 0, none⟩) [.mk 2 0 [114] [120] [] [] []]) : Calls Try.prog 13 #[.slice (some ⟨g, 0, none⟩) 1 c] w (fun e w' => e = .returned (.int .i64 1) ∧ Below w.heap.size w w') := by
  have h := ckstmts_any (sizeSs [.mk 2 0 [114] [120] [] [] []] + 1) [.mk 2 0 [114] [120] [] [] []] (Nat.lt_succ_self _) (some ⟨g, 0, none⟩) c w hr (by decide) (by decide +kernel)
  rw [pgA_cnt] at h
  exact h
set_option maxHeartbeats 6400000 in
theorem begun9_any (w : World) : Calls Try.prog 9 #[] w (BoolTo true w) := by
  have HS4 := Lib.hid (four_newK w 39 45 42 30 #[.string ⟨#[120]⟩, .int .i64 0] #[.int .i64 2, .int .i64 0, .string ⟨#[114]⟩, .string ⟨#[120]⟩, .slice none 0 0, .slice none 0 0, .slice none 0 0] #[.slice (some ⟨w.heap.size + 1, 0, none⟩) 1 1] #[.string ⟨#[97]⟩, .int .i64 2, .slice (some ⟨w.heap.size, 0, none⟩) 1 1, .slice (some ⟨w.heap.size + 1 + 1, 0, none⟩) 1 1, .int .i64 1, .int .i64 2, .int .i64 0, .string ⟨#[114]⟩, .int .i64 1, .slice none 0 0])
  go_enter Try.func9, Try.ntmps9
  go_upto_region 2 with (fail)
  obtain ⟨hb1, hi, hs, ht, hp⟩ := HS4.out
  have HB1 := Lib.hid hb1
  have HI := Lib.hid hi
  have HS := Lib.hid hs
  have HT := Lib.hid ht
  have HP := Lib.hid hp
  have HLP := Lib.hid (lpA hi hs ht)
  clear hb1 hi hs ht hp HS4
  generalize (((w.alloc (.cells #[.string ⟨#[120]⟩, .int .i64 0] 39)).alloc (.cells #[.int .i64 2, .int .i64 0, .string ⟨#[114]⟩, .string ⟨#[120]⟩, .slice none 0 0, .slice none 0 0, .slice none 0 0] 45)).alloc (.cells #[.slice (some ⟨w.heap.size + 1, 0, none⟩) 1 1] 42)).alloc (.cells #[.string ⟨#[97]⟩, .int .i64 2, .slice (some ⟨w.heap.size, 0, none⟩) 1 1, .slice (some ⟨w.heap.size + 1 + 1, 0, none⟩) 1 1, .int .i64 1, .int .i64 2, .int .i64 0, .string ⟨#[114]⟩, .int .i64 1, .slice none 0 0] 30) = w1 at *
  obtain ⟨⟨q0, q1, q2, q3, q4, q5, q6, q7, q8, q9⟩, _⟩ := ten_free HP.out
  go_wp2_with fail
  with_reducible refine (mayA _ _ HLP.out).mono ?_
  rintro e w2 ⟨rfl, hb2⟩
  have HB2 := Lib.hid (HB1.out.trans (hb2.mono HB1.out.size))
  have HS2 := Lib.hid (HS.out.live' hb2)
  have HT2 := Lib.hid (HT.out.live' hb2)
  have HP2 := Lib.hid (HP.out.live' hb2)
  clear hb2 q0 q1 q2 q3 q4 q5 q6 q7 q8 q9
  obtain ⟨hb3, hs3, ht3⟩ := two_newK w2 45 42 #[.int .i64 6, .int .i64 4, .string ⟨#[]⟩, .string ⟨#[]⟩, .slice none 0 0, .slice none 0 0, .slice none 0 0, .int .i64 2, .int .i64 0, .string ⟨#[114]⟩, .string ⟨#[120]⟩, .slice none 0 0, .slice none 0 0, .slice none 0 0] #[.slice (some ⟨w2.heap.size, 0, none⟩) 2 2]
  have HB3 := Lib.hid hb3
  have HLB := Lib.hid (lpB hs3 ht3)
  clear hs3 ht3 hb3
  go_wp2_with fail
  generalize (w2.alloc (.cells #[.int .i64 6, .int .i64 4, .string ⟨#[]⟩, .string ⟨#[]⟩, .slice none 0 0, .slice none 0 0, .slice none 0 0, .int .i64 2, .int .i64 0, .string ⟨#[114]⟩, .string ⟨#[120]⟩, .slice none 0 0, .slice none 0 0, .slice none 0 0] 45)).alloc (.cells #[.slice (some ⟨w2.heap.size, 0, none⟩) 2 2] 42) = w3 at *
  with_reducible refine (mayB _ _ HLB.out).mono ?_
  rintro e w4 ⟨rfl, hb4⟩
  have hb24 := HB3.out.trans (hb4.mono HB3.out.size)
  have HB4 := Lib.hid (HB2.out.trans (hb24.mono HB2.out.size))
  have HS4 := Lib.hid (HS2.out.live' hb24)
  have HT4 := Lib.hid (HT2.out.live' hb24)
  have HP4 := Lib.hid (HP2.out.live' hb24)
  have HR4 := Lib.hid (row9 HS4.out)
  clear hb4 hb24
  have q3 : w4.cell? ⟨w.heap.size + 1 + 1 + 1, 3, none⟩ = some (.slice (some ⟨w.heap.size + 1 + 1, 0, none⟩) 1 1) := HP4.out.cell 3
  have q0 : w4.cell? ⟨w.heap.size + 1 + 1, 0, none⟩ = some (.slice (some ⟨w.heap.size + 1, 0, none⟩) 1 1) := HT4.out.cell 0
  go_wp2_with fail
  with_reducible refine (regsA _ _ _ HR4.out).mono ?_
  rintro e w5 ⟨g, c, rfl, hc, hb5⟩
  have HB5 := Lib.hid (HB4.out.trans (hb5.mono HB4.out.size))
  have HS5 := Lib.hid (HS4.out.live' hb5)
  have HR5 := Lib.hid (row9 HS5.out)
  clear q3 q0
  have q3 : w5.cell? ⟨w.heap.size + 1 + 1 + 1, 3, none⟩ = some (.slice (some ⟨w.heap.size + 1 + 1, 0, none⟩) 1 1) := (HP4.out.live' hb5).cell 3
  have q0 : w5.cell? ⟨w.heap.size + 1 + 1, 0, none⟩ = some (.slice (some ⟨w.heap.size + 1, 0, none⟩) 1 1) := (HT4.out.live' hb5).cell 0
  clear hb5
  go_wp2_with fail
  with_reducible refine (stmtsA _ _ _ HR5.out).mono ?_
  rintro e w6 ⟨rfl, hb6⟩
  have HB6 := Lib.hid (HB5.out.trans (hb6.mono HB5.out.size))
  clear hb6
  go_wp2_with fail
  go_ret
  exact ⟨rfl, HB6.out⟩
end Go.Proofs.Ytlgnagmmljdkiab.Lx
