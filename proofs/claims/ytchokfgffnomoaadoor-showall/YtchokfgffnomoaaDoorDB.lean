/-
  What joins two sides, and what makes one of two, of the developers' cursor: contracts.
-/
import Derived.Test.YtchokfgffnomoaaDoorDTake
import Derived.Test.YtchokfgffnomoaaDoorPA
import Derived.Test.YtchokfgffnomoaaDoorPC
namespace Go.Proofs.YtchokfgffnomoaaDoor.Lx
open Go.RowKit
open L (Tok)
open P (EX CO ST)
set_option maxRecDepth 100000
set_option linter.unusedVariables false
set_option linter.unusedSimpArgs false
def onJ (jn : List Tok → Int) : Sta → Int
  | .ok ts => jn ts
  | .error _ => 0
def stp (jn : List Tok → Int) (st : Sta) : Sta := if onJ jn st = 0 then st else tl st
def slen : Sta → Nat
  | .ok ts => ts.length
  | .error _ => 0
/-- How many tokens are ahead, as memory says it. -/
def lnAt (C : Nat) (w : World) : Nat :=
  match w.cell? ⟨C, 0, none⟩ with
  | some (.slice _ n _) => n
  | _ => 0
theorem onJ_two {s1 s2 : List UInt8} {o1 o2 : Int} (h1 : o1 ≠ 0) (h2 : o2 ≠ 0) (st : Sta) : onJ (fun ts => if P.isS s1 ts then o1 else if P.isS s2 ts then o2 else 0) st = (bif onIs s1 st then o1 else bif onIs s2 st then o2 else 0) := by
  rcases st with q | ts
  · rfl
  · show (if P.isS s1 ts = true then o1 else if P.isS s2 ts = true then o2 else 0) = (bif P.isS s1 ts then o1 else bif P.isS s2 ts then o2 else 0)
    cases P.isS s1 ts <;> cases P.isS s2 ts <;> rfl
theorem onJ_one (s : List UInt8) (o : Int) (st : Sta) : onJ (P.jWord s o) st = (bif onIs s st then o else 0) := by
  rcases st with q | ts
  · rfl
  · show (if P.isS s ts = true then o else 0) = (bif P.isS s ts then o else 0)
    cases P.isS s ts <;> rfl
theorem sz_alloc (w : World) (o : Obj) : (w.alloc o).heap.size = w.heap.size + 1 := by simp
theorem Blk.new' (w : World) (t : TypeId) (cs : Array Value) {g : Nat} (h : w.heap.size = g) : Blk (w.alloc (.cells cs t)) g t cs := by
  subst h
  exact Blk.new w t cs
theorem below_alloc {B : Nat} {a b : World} (h : Below B a b) (hB : B ≤ a.heap.size) (o : Obj) : Below B a (b.alloc o) := h.alloc (Nat.le_trans hB h.size) o
/-- Two expressions made one. -/
def PairX (op o m o7 m7 : Int) (s s7 : ByteArray) (a a7 : Option Addr) (n c n7 c7 : Nat) (w : World) (e : Ending) (w' : World) : Prop :=
  ∃ K, e = .returned (.agg #[.int .i64 op, .int .i64 0, .string ⟨#[]⟩, .slice (some ⟨K, 0, none⟩) 2 2]) ∧ w.heap.size ≤ K ∧ Blk w' K 31 #[.int .i64 o, .int .i64 m, .string s, .slice a n c, .int .i64 o7, .int .i64 m7, .string s7, .slice a7 n7 c7] ∧ Below w.heap.size w w'
/-- Two conditions made one. -/
def PairC (op o m u o7 m7 u7 : Int) (s s7 : ByteArray) (a a7 : Option Addr) (n c n7 c7 : Nat) (w : World) (e : Ending) (w' : World) : Prop :=
  ∃ K, e = .returned (.agg #[.int .i64 op, .int .i64 0, .string ⟨#[]⟩, .int .i64 0, .slice (some ⟨K, 0, none⟩) 2 2]) ∧ w.heap.size ≤ K ∧ Blk w' K 26 #[.int .i64 o, .int .i64 m, .string s, .int .i64 u, .slice a n c, .int .i64 o7, .int .i64 m7, .string s7, .int .i64 u7, .slice a7 n7 c7] ∧ Below w.heap.size w w'
end Go.Proofs.YtchokfgffnomoaaDoor.Lx
/-
  What grouped tells of the developers' cursor: expressions, joined by sums, with atom on both sides.
-/
namespace Go.Proofs.YtchokfgffnomoaaDoor.Lx
open Go.RowKit
open L (Tok)
open P (EX CO ST)
set_option maxRecDepth 100000
set_option linter.unusedVariables false
set_option linter.unusedSimpArgs false
end Go.Proofs.YtchokfgffnomoaaDoor.Lx
/-
  What atom of the developers' cursor tells, whatever the state: a contract.
-/
namespace Go.Proofs.YtchokfgffnomoaaDoor.Lx
open Go.RowKit
open L (Tok)
open P (EX CO ST)
set_option maxRecDepth 100000
set_option linter.unusedVariables false
set_option linter.unusedSimpArgs false
theorem on_num {st : Sta} (h : onD st = true) : ∃ t r, st = .ok (t :: r) ∧ on st P.pNum = .ok (t.n, r) := by
  rcases st with q | ts
  · cases h
  · cases ts with
    | nil => cases h
    | cons t r =>
      refine ⟨t, r, rfl, ?_⟩
      show P.pNum (t :: r) = _
      have h' : P.isD (t :: r) = true := h
      unfold P.pNum
      simp only [h', if_true]
theorem on_num_no {ts : List Tok} (h : P.isD ts = false) : ∃ p, P.pNum ts = .error p := by
  cases ts with
  | nil => exact ⟨_, rfl⟩
  | cons t r =>
    refine ⟨t.at', ?_⟩
    unfold P.pNum
    simp only [h]
    rfl
theorem on_name_no {ts : List Tok} (h : P.isN ts = false) : P.pName ts = .error (P.here ts) := by
  cases ts with
  | nil => rfl
  | cons t r =>
    unfold P.pName
    simp only [h]
    rfl
theorem atom_num_eq (rec : List Tok → P.Res EX) {st : Sta} {n : Nat} {r : List Tok} (h : on st P.pNum = .ok (n, r)) : on st (P.atomF rec) = .ok (.mk 1 n [] [], r) := by
  rcases st with q | ts
  · cases h
  · have h' : P.pNum ts = .ok (n, r) := h
    show P.atomF rec ts = _
    unfold P.atomF
    rw [h']
theorem atom_open_eq (rec : List Tok → P.Res EX) {st : Sta} (h1 : onD st = false) (h2 : onN st = false) (h3 : onIs [40] st = true) :
    left (on st (P.atomF rec)) = onNeed [41] (left (on (tl st) rec)) ∧ ∀ e ts, on st (P.atomF rec) = .ok (e, ts) → ∃ r, on (tl st) rec = .ok (e, r) := by
  obtain ⟨t, r, rfl, _⟩ := onIs_live h3
  obtain ⟨p, e1⟩ := on_num_no (ts := t :: r) h1
  have e2 := on_name_no (ts := t :: r) h2
  have e3 : P.need [40] (t :: r) = .ok r := by
    unfold P.need
    rw [show P.isS [40] (t :: r) = true from h3]
    rfl
  show left (P.atomF rec (t :: r)) = onNeed [41] (left (rec r)) ∧ ∀ e ts, P.atomF rec (t :: r) = .ok (e, ts) → ∃ r', rec r = .ok (e, r')
  unfold P.atomF
  rw [e1, e2, e3]
  simp only
  cases h4 : rec r with
  | error q => exact ⟨rfl, fun _ _ hh => by cases hh⟩
  | ok y =>
    obtain ⟨y, u⟩ := y
    simp only
    cases h5 : P.need [41] u with
    | error q => exact ⟨by show _ = P.need [41] u; rw [h5]; rfl, fun _ _ hh => by cases hh⟩
    | ok u' => exact ⟨by show _ = P.need [41] u; rw [h5]; rfl, fun _ _ hh => by cases hh; exact ⟨u, rfl⟩⟩
theorem atom_name_eq (rec : List Tok → P.Res EX) {st : Sta} (h1 : onD st = false) (h3 : onIs [40] st = false) :
    left (on st (P.atomF rec)) = left (on st P.pName) ∧ ∀ e ts, on st (P.atomF rec) = .ok (e, ts) → ∃ s, on st P.pName = .ok (s, ts) ∧ e = .mk 2 0 s [] := by
  rcases st with q | ts
  · exact ⟨rfl, fun _ _ hh => by cases hh⟩
  · obtain ⟨p, e1⟩ := on_num_no (ts := ts) h1
    show left (P.atomF rec ts) = left (P.pName ts) ∧ ∀ e ts', P.atomF rec ts = .ok (e, ts') → ∃ s, P.pName ts = .ok (s, ts') ∧ e = .mk 2 0 s []
    unfold P.atomF
    rw [e1]
    simp only
    cases h2 : P.pName ts with
    | ok y =>
      obtain ⟨s, u⟩ := y
      exact ⟨rfl, fun _ _ hh => by cases hh; exact ⟨s, rfl, rfl⟩⟩
    | error q =>
      have hn : P.isN ts = false := by
        cases hh : P.isN ts with
        | false => rfl
        | true =>
          cases ts with
          | nil => cases hh
          | cons t r =>
            unfold P.pName at h2
            simp only [hh, if_true] at h2
            cases h2
      have e2 := on_name_no hn
      rw [h2] at e2
      injection e2 with e2
      have e3 : P.need [40] ts = .error (P.here ts) := by
        unfold P.need
        rw [show P.isS [40] ts = false from h3]
        rfl
      rw [e3]
      exact ⟨by rw [e2]; rfl, fun _ _ hh => by cases hh⟩
end Go.Proofs.YtchokfgffnomoaaDoor.Lx
/-
  What sum and expr of the developers' cursor tell, whatever the state; expr by the plain reader.
-/
namespace Go.Proofs.YtchokfgffnomoaaDoor.Lx
open Go.RowKit
open L (Tok)
open P (EX CO ST)
set_option maxRecDepth 100000
set_option linter.unusedVariables false
set_option linter.unusedSimpArgs false
theorem on_congr {α : Type} {p q : List Tok → P.Res α} (h : ∀ ts, p ts = q ts) (st : Sta) : on st p = on st q := by
  rcases st with e | ts
  · rfl
  · exact h ts
theorem exprF_cmp (rec : List Tok → P.Res EX) (ts : List Tok) : P.exprF rec ts = (match P.sumF rec ts with
    | .error p => .error p
    | .ok (e, r) =>
      if P.jCmp r = 0 then .ok (e, r)
      else
        match P.sumF rec r.tail with
        | .error p => .error p
        | .ok (a, r2) => .ok (P.prX (P.jCmp r) e a, r2)) := by
  unfold P.exprF
  cases P.sumF rec ts with
  | error p => rfl
  | ok y =>
    obtain ⟨e, r⟩ := y
    show (if (P.isS [61, 61] r || P.isS [60] r) = true then _ else _) = _
    cases h1 : P.isS [61, 61] r with
    | true =>
      have h2 := P.isS_one h1 (s' := [60]) (by decide)
      have hj : P.jCmp r = 5 := by rw [P.jCmp, h1]; rfl
      simp only [hj]
      rw [h2]
      rfl
    | false =>
      cases h2 : P.isS [60] r with
      | true =>
        have hj : P.jCmp r = 6 := by rw [P.jCmp, h1, h2]; rfl
        simp only [hj]
        rfl
      | false =>
        have hj : P.jCmp r = 0 := by rw [P.jCmp, h1, h2]; rfl
        simp only [hj]
        rfl
theorem expr_stop {rec : List Tok → P.Res EX} {st : Sta} (hz : onJ P.jCmp (left (on st (P.sumF rec))) = 0) : on st (P.exprF rec) = on st (P.sumF rec) := by
  rcases st with q | tt
  · rfl
  · show P.exprF rec tt = P.sumF rec tt
    have hz' : onJ P.jCmp (left (P.sumF rec tt)) = 0 := hz
    rw [exprF_cmp]
    cases hh : P.sumF rec tt with
    | error p => rfl
    | ok y =>
      obtain ⟨y, r⟩ := y
      rw [hh] at hz'
      have hz2 : P.jCmp r = 0 := hz'
      simp only [hz2, if_true]
theorem expr_more {rec : List Tok → P.Res EX} {st : Sta} {x : EX} {ts : List Tok} (hsum : on st (P.sumF rec) = .ok (x, ts)) (hz : ¬ P.jCmp ts = 0) :
    on st (P.exprF rec) = (match P.sumF rec ts.tail with
      | .error p => .error p
      | .ok (a, r2) => .ok (P.prX (P.jCmp ts) x a, r2)) := by
  rcases st with q | tt
  · cases hsum
  · have hs' : P.sumF rec tt = .ok (x, ts) := hsum
    show P.exprF rec tt = _
    rw [exprF_cmp, hs']
    simp only [if_neg hz]
end Go.Proofs.YtchokfgffnomoaaDoor.Lx
/-
  What grouped tells of the developers' cursor: conditions, joined by ands, with one on both sides.
-/
namespace Go.Proofs.YtchokfgffnomoaaDoor.Lx
open Go.RowKit
open L (Tok)
open P (EX CO ST)
set_option maxRecDepth 100000
set_option linter.unusedVariables false
set_option linter.unusedSimpArgs false
end Go.Proofs.YtchokfgffnomoaaDoor.Lx
/-
  What grouped tells of the developers' cursor: conditions, joined by ors, with both on both sides.
-/
namespace Go.Proofs.YtchokfgffnomoaaDoor.Lx
open Go.RowKit
open L (Tok)
open P (EX CO ST)
set_option maxRecDepth 100000
set_option linter.unusedVariables false
set_option linter.unusedSimpArgs false
end Go.Proofs.YtchokfgffnomoaaDoor.Lx
/-
  What has, both and cond of the developers' cursor tell, whatever the state (both and cond: by what one tells).
-/
namespace Go.Proofs.YtchokfgffnomoaaDoor.Lx
open Go.RowKit
open L (Tok)
open P (EX CO ST)
set_option maxRecDepth 100000
set_option linter.unusedVariables false
set_option linter.unusedSimpArgs false
/-- A name, ==, a number. -/
def hasF (ts : List Tok) : P.Res (List UInt8 × Nat) :=
  match P.pName ts with
  | .error p => .error p
  | .ok (s, r2) =>
    match P.need [61, 61] r2 with
    | .error p => .error p
    | .ok r3 =>
      match P.pNum r3 with
      | .error p => .error p
      | .ok (n, r4) => .ok ((s, n), r4)
theorem has_eq (st : Sta) : left (on st hasF) = left (on (onNeed [61, 61] (left (on st P.pName))) P.pNum) ∧
    ∀ s n ts, on st hasF = .ok ((s, n), ts) → (∃ r, on st P.pName = .ok (s, r)) ∧ on (onNeed [61, 61] (left (on st P.pName))) P.pNum = .ok (n, ts) := by
  rcases st with q | ts
  · exact ⟨rfl, fun _ _ _ hh => by cases hh⟩
  · show left (hasF ts) = left (on (onNeed [61, 61] (left (P.pName ts))) P.pNum) ∧ ∀ s n ts', hasF ts = .ok ((s, n), ts') → (∃ r, P.pName ts = .ok (s, r)) ∧ on (onNeed [61, 61] (left (P.pName ts))) P.pNum = .ok (n, ts')
    unfold hasF
    cases h1 : P.pName ts with
    | error p => exact ⟨rfl, fun _ _ _ hh => by cases hh⟩
    | ok y =>
      obtain ⟨s, r2⟩ := y
      show _ = left (on (P.need [61, 61] r2) P.pNum) ∧ ∀ s' n ts', _ → (∃ r, (.ok (s, r2) : P.Res (List UInt8)) = .ok (s', r)) ∧ on (P.need [61, 61] r2) P.pNum = .ok (n, ts')
      simp only
      cases h2 : P.need [61, 61] r2 with
      | error p => exact ⟨rfl, fun _ _ _ hh => by cases hh⟩
      | ok r3 =>
        show _ = left (P.pNum r3) ∧ ∀ s' n ts', _ → (∃ r, (.ok (s, r2) : P.Res (List UInt8)) = .ok (s', r)) ∧ P.pNum r3 = .ok (n, ts')
        simp only
        cases h3 : P.pNum r3 with
        | error p => exact ⟨rfl, fun _ _ _ hh => by cases hh⟩
        | ok z =>
          obtain ⟨n, r4⟩ := z
          exact ⟨rfl, fun _ _ _ hh => by cases hh; exact ⟨⟨r2, rfl⟩, rfl⟩⟩
theorem Only.mono {S S' : Nat → Prop} {w w' : World} (h : Only S w w') (hs : ∀ k, S k → S' k) : Only S' w w' := ⟨h.os, h.tape, h.output, h.size, fun k hk hn => h.block k hk fun e => hn (hs k e)⟩
end Go.Proofs.YtchokfgffnomoaaDoor.Lx
/-
  What one of the developers' cursor tells, whatever the state; cond by the plain reader.
-/
namespace Go.Proofs.YtchokfgffnomoaaDoor.Lx
open Go.RowKit
open L (Tok)
open P (EX CO ST)
set_option maxRecDepth 100000
set_option linter.unusedVariables false
set_option linter.unusedSimpArgs false
theorem one_not_eq {n : Nat} {st : Sta} (h : onIs [110, 111, 116] st = true) : left (on st (P.oneN (n + 1))) = left (on (tl st) (P.oneN n)) ∧ ∀ x ts, on st (P.oneN (n + 1)) = .ok (x, ts) → ∃ y, on (tl st) (P.oneN n) = .ok (y, ts) ∧ x = .mk 3 0 [] 0 [y] := by
  obtain ⟨t, r, rfl, _⟩ := onIs_live h
  show left (P.oneN (n + 1) (t :: r)) = left (P.oneN n r) ∧ ∀ x ts, P.oneN (n + 1) (t :: r) = .ok (x, ts) → ∃ y, P.oneN n r = .ok (y, ts) ∧ x = .mk 3 0 [] 0 [y]
  rw [P.oneN, if_pos (show P.isS [110, 111, 116] (t :: r) = true from h)]
  simp only [List.tail_cons]
  cases P.oneN n r with
  | error p => exact ⟨rfl, fun _ _ hh => by cases hh⟩
  | ok y => exact ⟨rfl, fun _ _ hh => by cases hh; exact ⟨y.1, rfl, rfl⟩⟩
theorem one_open_eq {n : Nat} {st : Sta} (h0 : onIs [110, 111, 116] st = false) (h : onIs [40] st = true) : left (on st (P.oneN (n + 1))) = onNeed [41] (left (on (tl st) (P.condF (P.oneN n)))) ∧ ∀ x ts, on st (P.oneN (n + 1)) = .ok (x, ts) → ∃ r, on (tl st) (P.condF (P.oneN n)) = .ok (x, r) := by
  obtain ⟨t, r, rfl, _⟩ := onIs_live h
  show left (P.oneN (n + 1) (t :: r)) = onNeed [41] (left (P.condF (P.oneN n) r)) ∧ ∀ x ts, P.oneN (n + 1) (t :: r) = .ok (x, ts) → ∃ r', P.condF (P.oneN n) r = .ok (x, r')
  rw [P.oneN, if_neg (by rw [show P.isS [110, 111, 116] (t :: r) = false from h0]; decide), if_pos (show P.isS [40] (t :: r) = true from h)]
  simp only [List.tail_cons]
  cases P.condF (P.oneN n) r with
  | error p => exact ⟨rfl, fun _ _ hh => by cases hh⟩
  | ok y =>
    obtain ⟨y, u⟩ := y
    simp only
    cases h5 : P.need [41] u with
    | error q => exact ⟨by show _ = P.need [41] u; rw [h5]; rfl, fun _ _ hh => by cases hh⟩
    | ok u' => exact ⟨by show _ = P.need [41] u; rw [h5]; rfl, fun _ _ hh => by cases hh; exact ⟨u, rfl⟩⟩
theorem one_lit {n : Nat} {st : Sta} (h0 : onIs [110, 111, 116] st = false) (h1 : onIs [40] st = false) : on st (P.oneN (n + 1)) = on st P.litF := by
  rcases st with q | ts
  · rfl
  · show P.oneN (n + 1) ts = P.litF ts
    rw [P.oneN, if_neg (by rw [show P.isS [110, 111, 116] ts = false from h0]; decide), if_neg (by rw [show P.isS [40] ts = false from h1]; decide)]
theorem lit_num_eq {st : Sta} (h : onD st = true) : left (on st P.litF) = left (on (onNeed [58] (left (on st P.pNum))) hasF) ∧
    ∀ x ts, on st P.litF = .ok (x, ts) → ∃ k s n r, on st P.pNum = .ok (k, r) ∧ on (onNeed [58] (left (on st P.pNum))) hasF = .ok ((s, n), ts) ∧ x = .mk 2 k s n [] := by
  obtain ⟨t, r, rfl, hn⟩ := on_num h
  have hn' : P.pNum (t :: r) = .ok (t.n, r) := hn
  rw [hn]
  show left (P.litF (t :: r)) = left (on (P.need [58] r) hasF) ∧ ∀ x ts, P.litF (t :: r) = .ok (x, ts) → ∃ k s n r', (.ok (t.n, r) : P.Res Nat) = .ok (k, r') ∧ on (P.need [58] r) hasF = .ok ((s, n), ts) ∧ x = .mk 2 k s n []
  unfold P.litF
  rw [hn']
  simp only
  cases h1 : P.need [58] r with
  | error p => exact ⟨rfl, fun _ _ hh => by cases hh⟩
  | ok r1 =>
    show _ = left (hasF r1) ∧ ∀ x ts, _ → ∃ k s n r', _ ∧ hasF r1 = .ok ((s, n), ts) ∧ _
    unfold hasF
    simp only
    cases h2 : P.pName r1 with
    | error p => exact ⟨rfl, fun _ _ hh => by cases hh⟩
    | ok y =>
      obtain ⟨s, r2⟩ := y
      simp only
      cases h3 : P.need [61, 61] r2 with
      | error p => exact ⟨rfl, fun _ _ hh => by cases hh⟩
      | ok r3 =>
        simp only
        cases h4 : P.pNum r3 with
        | error p => exact ⟨rfl, fun _ _ hh => by cases hh⟩
        | ok z =>
          obtain ⟨n, r4⟩ := z
          exact ⟨rfl, fun _ _ hh => by cases hh; exact ⟨t.n, s, n, r, rfl, rfl, rfl⟩⟩
theorem lit_name_eq {st : Sta} (h : onD st = false) : left (on st P.litF) = left (on st hasF) ∧ ∀ x ts, on st P.litF = .ok (x, ts) → ∃ s n, on st hasF = .ok ((s, n), ts) ∧ x = .mk 1 0 s n [] := by
  rcases st with q | ts
  · exact ⟨rfl, fun _ _ hh => by cases hh⟩
  · obtain ⟨p, hp⟩ := on_num_no (ts := ts) h
    show left (P.litF ts) = left (hasF ts) ∧ ∀ x ts', P.litF ts = .ok (x, ts') → ∃ s n, hasF ts = .ok ((s, n), ts') ∧ x = .mk 1 0 s n []
    unfold P.litF hasF
    rw [hp]
    simp only
    cases h2 : P.pName ts with
    | error p => exact ⟨rfl, fun _ _ hh => by cases hh⟩
    | ok y =>
      obtain ⟨s, r2⟩ := y
      simp only
      cases h3 : P.need [61, 61] r2 with
      | error p => exact ⟨rfl, fun _ _ hh => by cases hh⟩
      | ok r3 =>
        simp only
        cases h4 : P.pNum r3 with
        | error p => exact ⟨rfl, fun _ _ hh => by cases hh⟩
        | ok z =>
          obtain ⟨n, r4⟩ := z
          exact ⟨rfl, fun _ _ hh => by cases hh; exact ⟨s, n, rfl, rfl⟩⟩
end Go.Proofs.YtchokfgffnomoaaDoor.Lx
