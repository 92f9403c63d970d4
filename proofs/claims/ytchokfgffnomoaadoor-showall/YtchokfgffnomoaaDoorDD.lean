/-
  One after the other, with places: what the loop of many keeps, whatever is read.
-/
import Derived.Test.YtchokfgffnomoaaDoorDPart
import Derived.Test.YtchokfgffnomoaaDoorPA
import Derived.Test.YtchokfgffnomoaaDoorPE
import Derived.Test.YtchokfgffnomoaaDoorDB
namespace Go.Proofs.YtchokfgffnomoaaDoor.Lx
open Go.RowKit
open L (Tok)
open P (EX CO ST Gl nextR)
set_option maxRecDepth 100000
set_option linter.unusedVariables false
set_option linter.unusedSimpArgs false
theorem Only.then {S S' : Nat → Prop} {a b c : World} (h : Only S a b) (k : Only S' b c) (hs : ∀ j, S' j → S j ∨ a.heap.size ≤ j) : Only S a c :=
  ⟨k.os.trans h.os, k.tape.trans h.tape, k.output.trans h.output, Nat.le_trans h.size k.size, fun j hj hn => (k.block j (Nat.lt_of_lt_of_le hj h.size) (fun e => by
    rcases hs j e with h1 | h1
    · exact hn h1
    · omega)).trans (h.block j hj hn)⟩
theorem own_only {w w' : World} {S : Nat → Prop} {base : Nat} {t : TypeId} {size n : Nat} {v : Value} {xs : List Value} (h : w.ownsRow base t size v n xs) (ho : Only S w w') (hS : ∀ k, v.ownBlock = some k → ¬ S k) : w'.ownsRow base t size v n xs := by
  refine ⟨h.1, ?_⟩
  rcases h.2 with h2 | ⟨g, cap, cur, rfl, hg, hh, hr⟩
  · exact .inl h2
  · exact .inr ⟨g, cap, cur, rfl, hg, (ho.block g (lt_of_block hh) (hS g rfl)).trans hh, hr⟩
theorem own_types {w : World} {base base' : Nat} {t t' : TypeId} {size size' n n' : Nat} {v v' : Value} {xs xs' : List Value} (h : w.ownsRow base t size v n xs) (h' : w.ownsRow base' t' size' v' n' xs') (hne : t ≠ t') : ∀ k, v.ownBlock = some k → v'.ownBlock ≠ some k := by
  intro k hk hk'
  rcases h.2 with ⟨rfl, _⟩ | ⟨g, cap, cur, rfl, hg, hh, _⟩
  · cases hk
  · rcases h'.2 with ⟨rfl, _⟩ | ⟨g', cap', cur', rfl, hg', hh', _⟩
    · cases hk'
    · cases hk
      cases hk'
      have := hh.symm.trans hh'
      injection this with this
      injection this with _ this
      exact hne this
/-- New since n, and not where the places lie. -/
def Nw (n : Nat) (pv : Value) (b : Nat) : Prop := n ≤ b ∧ pv.ownBlock ≠ some b
/-- What is kept of values, from blocks to blocks. -/
def Same (Q Q' : Nat → Prop) (w w' : World) : Prop := ∀ b, Q b → b < w.heap.size → Q' b ∧ w'.heap[b]? = w.heap[b]?
def StepV {α : Type} (Val : (Nat → Prop) → World → Value → α → Prop) : Prop := ∀ {Q Q' : Nat → Prop} {w w' : World}, Same Q Q' w w' → ∀ {v a}, Val Q w v a → Val Q' w' v a
theorem LX.step {Q Q' : Nat → Prop} {w w' : World} (h : Same Q Q' w w') {v : Value} {e : EX} (hv : LX Q w v e) : LX Q' w' v e := by
  have h1 := LX.mono (Q' := fun b => Q' b ∧ w'.heap[b]? = w.heap[b]?) (fun b hb hl => h b hb hl) e hv
  have h2 := h1.keep (w' := w') (fun b hb hl => hb.2)
  exact LX.mono (fun b hb _ => hb.1) e h2
theorem LS.step {Q Q' : Nat → Prop} {w w' : World} (h : Same Q Q' w w') {v : Value} {e : ST} (hv : LS Q w v e) : LS Q' w' v e := by
  have h1 := LS.mono (Q' := fun b => Q' b ∧ w'.heap[b]? = w.heap[b]?) (fun b hb hl => h b hb hl) e hv
  have h2 := LS.keep (w' := w') (fun b hb hl => hb.2) e h1
  exact LS.mono (fun b hb _ => hb.1) e h2
theorem LSs.step {Q Q' : Nat → Prop} {w w' : World} (h : Same Q Q' w w') {g off : Nat} {es : List ST} (hg : Q g) (hne : es ≠ []) (hv : LSs Q w g off es) : Q' g ∧ LSs Q' w' g off es := by
  have hl : g < w.heap.size := by
    cases es with
    | nil => exact absurd rfl hne
    | cons x xs => exact lss_lt hv
  have h1 := LSs.mono (Q' := fun b => Q' b ∧ w'.heap[b]? = w.heap[b]?) (fun b hb hl => h b hb hl) es hv
  have h2 := LSs.keep (w' := w') (fun b hb hl => hb.2) es (h g hg hl) h1
  exact ⟨(h g hg hl).1, LSs.mono (fun b hb _ => hb.1) es h2⟩
/-- A slice of statements. -/
def IsSs (Q : Nat → Prop) (w : World) (v : Value) (es : List ST) : Prop := ∃ a c, v = .slice a es.length c ∧ es.length ≤ maxLen ∧ (es = [] ∨ ∃ g off, a = some ⟨g, off, none⟩ ∧ Q g ∧ LSs Q w g off es)
theorem IsSs.step {Q Q' : Nat → Prop} {w w' : World} (h : Same Q Q' w w') {v : Value} {es : List ST} (hv : IsSs Q w v es) : IsSs Q' w' v es := by
  obtain ⟨a, c, rfl, hm, hr⟩ := hv
  refine ⟨a, c, rfl, hm, ?_⟩
  by_cases hne : es = []
  · exact .inl hne
  · rcases hr with h1 | ⟨g, off, rfl, hg, hs⟩
    · exact .inl h1
    · obtain ⟨h1, h2⟩ := LSs.step h hg hne hs
      exact .inr ⟨g, off, rfl, h1, h2⟩
variable {α : Type} (sz : Nat) (mk : List Value → Value) (Val : (Nat → Prop) → World → Value → α → Prop)
def RowsV (Q : Nat → Prop) (w : World) : List Value → List α → Prop
  | vals, [] => vals = []
  | vals, a :: es => ∃ cs rest, vals = cs ++ rest ∧ cs.length = sz ∧ Val Q w (mk cs) a ∧ RowsV Q w rest es
theorem RowsV.snoc {Q : Nat → Prop} {w : World} {cs : List Value} {a : α} (hc : cs.length = sz) (ha : Val Q w (mk cs) a) : ∀ (es : List α) (vals : List Value), RowsV sz mk Val Q w vals es → RowsV sz mk Val Q w (vals ++ cs) (es ++ [a])
  | [], vals, h => by
    have : vals = [] := h
    subst this
    exact ⟨cs, [], by simp, hc, ha, rfl⟩
  | e :: es, vals, h => by
    obtain ⟨c1, rest, rfl, h1, h2, h3⟩ := h
    exact ⟨c1, rest ++ cs, by simp, h1, h2, RowsV.snoc hc ha es rest h3⟩
theorem RowsV.step (hV : StepV Val) {Q Q' : Nat → Prop} {w w' : World} (h : Same Q Q' w w') : ∀ (es : List α) (vals : List Value), RowsV sz mk Val Q w vals es → RowsV sz mk Val Q' w' vals es
  | [], vals, hr => hr
  | e :: es, vals, hr => by
    obtain ⟨c1, rest, rfl, h1, h2, h3⟩ := hr
    exact ⟨c1, rest, rfl, h1, hV h h2, RowsV.step hV h es rest h3⟩
variable {α : Type} {sz : Nat} {mk : List Value → Value} {Val : (Nat → Prop) → World → Value → α → Prop} {ty : TypeId} {tot : List Tok → P.Res (List α × List Nat)} {C g base : Nat} {TS : List Tok} {pv : Value} {ps : List Nat} {st : Sta} {w : World}
def startR {α : Type} : Sta → P.Res (List α × List Nat)
  | .ok ts => .ok (([], []), ts)
  | .error q => .error q
theorem left_next (es : List α) (qs : List Nat) (x : P.Res (α × List Nat)) : left (nextR es qs x) = left x := by
  rcases x with p | ⟨⟨a, q⟩, r⟩ <;> rfl
end Go.Proofs.YtchokfgffnomoaaDoor.Lx
/-
  access of the developers' cursor: a contract.
-/
namespace Go.Proofs.YtchokfgffnomoaaDoor.Lx
open Go.RowKit
open L (Tok)
open P (EX CO ST)
set_option maxRecDepth 100000
set_option linter.unusedVariables false
set_option linter.unusedSimpArgs false
variable {w0 w : World} {B C g : Nat} {TS : List Tok} {pv : Value} {st : Sta} {a0 a1 a2 a3 a4 a5 a6 : Value}
def accF (ts : List Tok) : P.Res (Nat × List UInt8) :=
  match P.pMode ts with
  | .error p => .error p
  | .ok (m, r1) =>
    match P.pName r1 with
    | .error p => .error p
    | .ok (l, r2) => .ok ((m, l), r2)
theorem acc_eq (st : Sta) : left (on st accF) = left (on (left (on st P.pMode)) P.pName) ∧ ∀ m l ts, on st accF = .ok ((m, l), ts) → (∃ r, on st P.pMode = .ok (m, r)) ∧ on (left (on st P.pMode)) P.pName = .ok (l, ts) := by
  rcases st with q | ts
  · exact ⟨rfl, fun _ _ _ h => by cases h⟩
  · simp only [on, accF]
    cases h1 : P.pMode ts with
    | error p => exact ⟨rfl, fun _ _ _ h => by cases h⟩
    | ok x =>
      obtain ⟨m, r1⟩ := x
      simp only [left]
      cases h2 : P.pName r1 with
      | error p => exact ⟨rfl, fun _ _ _ h => by cases h⟩
      | ok y =>
        obtain ⟨l, r2⟩ := y
        exact ⟨rfl, fun _ _ _ h => by cases h; exact ⟨⟨r1, rfl⟩, rfl⟩⟩
end Go.Proofs.YtchokfgffnomoaaDoor.Lx
/-
  many of statements, atStmt: contracts.
-/
namespace Go.Proofs.YtchokfgffnomoaaDoor.Lx
open Go.RowKit
open L (Tok)
open P (EX CO ST Gl nextR)
set_option maxRecDepth 100000
set_option linter.unusedVariables false
set_option linter.unusedSimpArgs false
theorem Tryd.infoSt : (Tryd.prog.info? 68).map (fun i => (i.zero, i.size, i.bytes)) = some (some (.agg #[.int .i64 0, .int .i64 0, .string ⟨#[]⟩, .string ⟨#[]⟩, .slice none 0 0, .slice none 0 0, .slice none 0 0]), 7, 120) := by kernel_rfl
theorem seven_new (w : World) (k m : Int) (r l : ByteArray) (a1 : Option Addr) (n1 c1 : Nat) (a2 : Option Addr) (n2 c2 : Nat) (a3 : Option Addr) (n3 c3 : Nat) (t : TypeId) : ∀ j u, [Value.int .i64 k, .int .i64 m, .string r, .string l, .slice a1 n1 c1, .slice a2 n2 c2, .slice a3 n3 c3][j]? = some u → (w.alloc (.cells #[.int .i64 k, .int .i64 m, .string r, .string l, .slice a1 n1 c1, .slice a2 n2 c2, .slice a3 n3 c3] t)).cell? ((⟨w.heap.size, 0, none⟩ : Addr).add j) = some u := by
  intro j u hu
  have hB := Blk.new w t #[.int .i64 k, .int .i64 m, .string r, .string l, .slice a1 n1 c1, .slice a2 n2 c2, .slice a3 n3 c3]
  have h := hB.cell j
  have e : ((⟨w.heap.size, 0, none⟩ : Addr).add j) = ⟨w.heap.size, j, none⟩ := by simp [Addr.add]; intro h; exact h.symm
  rw [e, h]
  simpa using hu
theorem seven_one (k m : Int) (r l : ByteArray) (a1 : Option Addr) (n1 c1 : Nat) (a2 : Option Addr) (n2 c2 : Nat) (a3 : Option Addr) (n3 c3 : Nat) : ∀ u ∈ [Value.int .i64 k, .int .i64 m, .string r, .string l, .slice a1 n1 c1, .slice a2 n2 c2, .slice a3 n3 c3], u.oneCell' = true := by
  intro u hu
  simp only [List.mem_cons, List.not_mem_nil, or_false] at hu
  rcases hu with rfl | rfl | rfl | rfl | rfl | rfl | rfl <;> rfl
/-- A statement may follow, whatever the state. -/
def onS (st : Sta) : Bool := match st with
  | .ok ts => P.atS ts
  | .error _ => false
def agg (cs : List Value) : Value := .agg cs.toArray
/-- Rows of statements in a block. -/
theorem rowsS {Q : Nat → Prop} {w : World} {g : Nat} : ∀ (es : List ST) (vals : List Value) (off : Nat), RowsV 7 agg LS Q w vals es → (∀ i u, vals[i]? = some u → w.cell? ⟨g, off + i, none⟩ = some u) → LSs Q w g off es
  | [], vals, off, h, hc => by
    unfold LSs
    trivial
  | e :: es, vals, off, h, hc => by
    obtain ⟨cs, rest, rfl, hl, hv, hr⟩ := h
    match cs, hl with
    | [c0, c1, c2, c3, c4, c5, c6], _ =>
      unfold LSs
      refine ⟨⟨c0, c1, c2, c3, c4, c5, c6, hc 0 c0 rfl, hc 1 c1 rfl, hc 2 c2 rfl, hc 3 c3 rfl, hc 4 c4 rfl, hc 5 c5 rfl, hc 6 c6 rfl, hv⟩, ?_⟩
      refine rowsS es rest (off + 7) hr (fun i u hu => ?_)
      have := hc (i + 7) u (by simpa using hu)
      rw [show off + (i + 7) = off + 7 + i by omega] at this
      exact this
theorem own_cells {w : World} {base g : Nat} {t : TypeId} {size n cap : Nat} {xs : List Value} (h : w.ownsRow base t size (.slice (some ⟨g, 0, none⟩) n cap) n xs) : ∀ i u, xs[i]? = some u → w.cell? ⟨g, 0 + i, none⟩ = some u := by
  intro i u hu
  rcases h.2 with ⟨h1, _⟩ | ⟨g', cap', cur, he, hg, hh, hn, hcm, hs, ht⟩
  · cases h1
  · cases he
    have hB : Blk w g t cur := hh
    rw [Nat.zero_add, hB.cell]
    rw [← ht, List.getElem?_take] at hu
    split at hu
    · simpa using hu
    · cases hu
theorem lsStep : StepV LS := by
  intro Q Q' w w' h v a hv
  exact LS.step h hv
end Go.Proofs.YtchokfgffnomoaaDoor.Lx
/-
  atStmt, block of the developers' cursor: contracts.
-/
namespace Go.Proofs.YtchokfgffnomoaaDoor.Lx
open Go.RowKit
open L (Tok)
open P (EX CO ST Gl nextR)
set_option maxRecDepth 100000
set_option linter.unusedVariables false
set_option linter.unusedSimpArgs false
theorem onS_or (st : Sta) : onS st = (onN st || onIs [115, 116, 111, 114, 101] st || onIs [102, 101, 110, 99, 101] st || onIs [105, 102] st) := by
  rcases st with q | ts <;> rfl
theorem slen_need (s : List UInt8) (st : Sta) : slen (onNeed s st) ≤ slen st := by
  rcases st with q | ts
  · exact Nat.le_refl _
  · show slen (P.need s ts) ≤ ts.length
    cases h : P.need s ts with
    | error p => exact Nat.zero_le _
    | ok r => exact Nat.le_of_lt (P.need_less h)
theorem closeR {n : Nat} {r : P.Res (List ST × List Nat)} (h : onS (left r) = false) : Gl (P.stmtsT (P.stmtN n)) r = P.closeF r := by
  rcases r with p | ⟨⟨es, qs⟩, ts⟩
  · rfl
  · exact P.stmtsT_stop h es qs
theorem close_left (r : P.Res (List ST × List Nat)) : left (P.closeF r) = onNeed [125] (left r) := by
  rcases r with p | ⟨⟨es, qs⟩, ts⟩
  · rfl
  · show left (match P.need [125] ts with
      | .error p => .error p
      | .ok r2 => .ok ((es, qs), r2)) = P.need [125] ts
    cases P.need [125] ts <;> rfl
theorem close_ok {r : P.Res (List ST × List Nat)} {a : List ST × List Nat} {ts : List Tok} (h : P.closeF r = .ok (a, ts)) : ∃ t1, r = .ok (a, t1) := by
  rcases r with p | ⟨a', t1⟩
  · cases h
  · unfold P.closeF at h
    simp only at h
    split at h
    · cases h
    · cases h
      exact ⟨t1, rfl⟩
theorem block_eq {n : Nat} (st : Sta) : on st (P.blockF (P.stmtN n)) = on (onNeed [123] st) (P.stmtsT (P.stmtN n)) := by
  rcases st with q | ts
  · rfl
  · show P.blockF (P.stmtN n) ts = on (P.need [123] ts) _
    unfold P.blockF
    cases P.need [123] ts <;> rfl
def AnySl (w : World) (v : Value) : Prop := ∃ a n c, v = .slice a n c
end Go.Proofs.YtchokfgffnomoaaDoor.Lx
/-
  right of the developers' cursor: a contract.
-/
namespace Go.Proofs.YtchokfgffnomoaaDoor.Lx
open Go.RowKit
open L (Tok)
open P (EX CO ST)
set_option maxRecDepth 100000
set_option linter.unusedVariables false
set_option linter.unusedSimpArgs false
theorem ls_none {Q : Nat → Prop} {w : World} {kd md : Int} {rg lc : List UInt8} : LS Q w (.agg #[.int .i64 kd, .int .i64 md, .string (bs rg), .string (bs lc), .slice none 0 0, .slice none 0 0, .slice none 0 0]) (.mk kd md rg lc [] [] []) := by
  unfold LS
  exact ⟨_, _, _, _, _, _, rfl, Nat.zero_le _, Nat.zero_le _, Nat.zero_le _, .inl rfl, .inl rfl, .inl rfl⟩
theorem ls_args {Q : Nat → Prop} {w : World} {kd md : Int} {rg lc : List UInt8} {K c : Nat} {xs : List EX} (hn : xs.length ≤ 2) (hQ : Q K) (hx : LXs Q w K 0 xs) : LS Q w (.agg #[.int .i64 kd, .int .i64 md, .string (bs rg), .string (bs lc), .slice (some ⟨K, 0, none⟩) xs.length c, .slice none 0 0, .slice none 0 0]) (.mk kd md rg lc xs [] []) := by
  unfold LS
  exact ⟨_, _, _, _, _, _, rfl, by unfold maxLen; omega, Nat.zero_le _, Nat.zero_le _, .inr ⟨K, 0, rfl, hQ, hx⟩, .inl rfl, .inl rfl⟩
section
variable {w0 w : World} {B C g : Nat} {TS : List Tok} {pv : Value} {st : Sta} {a0 a1 a2 a3 a4 a5 a6 : Value}
theorem arg_blk (w : World) (B : Nat) (u : Value) (cs : Array Value) : Blk ((w.setCell ⟨B, 4, none⟩ u).alloc (.cells cs 31)) w.heap.size 31 cs := Blk.new' _ _ _ (by simp)
theorem arg_keep {Q : Nat → Prop} {x : EX} {v : Value} (hx : LX Q w v x) (hQ : ¬ Q B) (u : Value) (o : Obj) : LX Q ((w.setCell ⟨B, 4, none⟩ u).alloc o) v x :=
  (hx.keep (Keeps.only (S := fun b => b = B) ((Only.refl (fun b => b = B) w).setCell (p := ⟨B, 4, none⟩) (.inl rfl) u) (by intro q hq e; exact hQ (e ▸ hq)))).keep (Keeps.below ((Below.refl _ _).alloc (Nat.le_refl _) _) (Nat.le_refl _))
end
theorem right_load_eq {rg : List UInt8} {st : Sta} (hl : onIs [108, 111, 97, 100] st = true) : left (on st (P.rightF rg)) = left (on (tl st) accF) ∧ ∀ s ts, on st (P.rightF rg) = .ok (s, ts) → ∃ m l, on (tl st) accF = .ok ((m, l), ts) ∧ s = .mk 2 m rg l [] [] [] := by
  rcases st with q | ts
  · cases hl
  · have hl' : P.isS [108, 111, 97, 100] ts = true := hl
    simp only [on, P.rightF, hl', if_true, tl, accF]
    cases P.pMode ts.tail with
    | error p => exact ⟨rfl, fun _ _ h => by cases h⟩
    | ok x =>
      obtain ⟨m, r1⟩ := x
      simp only
      cases P.pName r1 with
      | error p => exact ⟨rfl, fun _ _ h => by cases h⟩
      | ok y => exact ⟨rfl, fun _ _ h => by cases h; exact ⟨_, _, rfl, rfl⟩⟩
theorem right_add_eq {rg : List UInt8} {st : Sta} (h0 : onIs [108, 111, 97, 100] st = false) (hl : onIs [97, 100, 100] st = true) : left (on st (P.rightF rg)) = left (on (left (on (tl st) accF)) P.pExpr) ∧ ∀ s ts, on st (P.rightF rg) = .ok (s, ts) → ∃ m l r x, on (tl st) accF = .ok ((m, l), r) ∧ on (left (on (tl st) accF)) P.pExpr = .ok (x, ts) ∧ s = .mk 4 m rg l [x] [] [] := by
  rcases st with q | ts
  · cases hl
  · have h0' : P.isS [108, 111, 97, 100] ts = false := h0
    have hl' : P.isS [97, 100, 100] ts = true := hl
    simp only [on, P.rightF, h0', hl', if_true, Bool.false_eq_true, if_false, tl, accF]
    cases P.pMode ts.tail with
    | error p => exact ⟨rfl, fun _ _ h => by cases h⟩
    | ok x =>
      obtain ⟨m, r1⟩ := x
      simp only
      cases P.pName r1 with
      | error p => exact ⟨rfl, fun _ _ h => by cases h⟩
      | ok y =>
        obtain ⟨l, r2⟩ := y
        simp only [left]
        cases P.pExpr r2 with
        | error p => exact ⟨rfl, fun _ _ h => by cases h⟩
        | ok z => exact ⟨rfl, fun _ _ h => by cases h; exact ⟨_, _, _, _, rfl, rfl, rfl⟩⟩
theorem right_cas_eq {rg : List UInt8} {st : Sta} (h0 : onIs [108, 111, 97, 100] st = false) (h1 : onIs [97, 100, 100] st = false) (hl : onIs [99, 97, 115] st = true) :
    left (on st (P.rightF rg)) = left (on (onNeed [44] (left (on (left (on (tl st) accF)) P.pExpr))) P.pExpr) ∧ ∀ s ts, on st (P.rightF rg) = .ok (s, ts) → ∃ m l r x r' y, on (tl st) accF = .ok ((m, l), r) ∧ on (left (on (tl st) accF)) P.pExpr = .ok (x, r') ∧ on (onNeed [44] (left (on (left (on (tl st) accF)) P.pExpr))) P.pExpr = .ok (y, ts) ∧ s = .mk 5 m rg l [x, y] [] [] := by
  rcases st with q | ts
  · cases hl
  · have h0' : P.isS [108, 111, 97, 100] ts = false := h0
    have h1' : P.isS [97, 100, 100] ts = false := h1
    have hl' : P.isS [99, 97, 115] ts = true := hl
    simp only [on, P.rightF, h0', h1', hl', if_true, Bool.false_eq_true, if_false, tl, accF]
    cases P.pMode ts.tail with
    | error p => exact ⟨rfl, fun _ _ h => by cases h⟩
    | ok x =>
      obtain ⟨m, r1⟩ := x
      simp only
      cases P.pName r1 with
      | error p => exact ⟨rfl, fun _ _ h => by cases h⟩
      | ok y =>
        obtain ⟨l, r2⟩ := y
        simp only [left]
        cases P.pExpr r2 with
        | error p => exact ⟨rfl, fun _ _ h => by cases h⟩
        | ok z =>
          obtain ⟨x, r3⟩ := z
          simp only [onNeed]
          cases P.need [44] r3 with
          | error p => exact ⟨rfl, fun _ _ h => by cases h⟩
          | ok r4 =>
            simp only
            cases P.pExpr r4 with
            | error p => exact ⟨rfl, fun _ _ h => by cases h⟩
            | ok z => exact ⟨rfl, fun _ _ h => by cases h; exact ⟨_, _, _, _, _, _, rfl, rfl, rfl, rfl⟩⟩
theorem right_set_eq {rg : List UInt8} {st : Sta} (h0 : onIs [108, 111, 97, 100] st = false) (h1 : onIs [97, 100, 100] st = false) (h2 : onIs [99, 97, 115] st = false) :
    left (on st (P.rightF rg)) = left (on st P.pExpr) ∧ ∀ s ts, on st (P.rightF rg) = .ok (s, ts) → ∃ x, on st P.pExpr = .ok (x, ts) ∧ s = .mk 1 0 rg [] [x] [] [] := by
  rcases st with q | ts
  · exact ⟨rfl, fun _ _ h => by cases h⟩
  · have h0' : P.isS [108, 111, 97, 100] ts = false := h0
    have h1' : P.isS [97, 100, 100] ts = false := h1
    have h2' : P.isS [99, 97, 115] ts = false := h2
    simp only [on, P.rightF, h0', h1', h2', if_true, Bool.false_eq_true, if_false]
    cases P.pExpr ts with
    | error p => exact ⟨rfl, fun _ _ h => by cases h⟩
    | ok z => exact ⟨rfl, fun _ _ h => by cases h; exact ⟨_, rfl, rfl⟩⟩
end Go.Proofs.YtchokfgffnomoaaDoor.Lx
