/-
  What a text's tokens are like; and what is read of a text: plain words.
-/
import Derived.Test.YtchokfgffnomoaaDoorDP
import Derived.Test.YtchokfgffnomoaaDoorLLex
namespace Go.Proofs.YtchokfgffnomoaaDoor.L
set_option linter.unusedVariables false
set_option linter.unusedSimpArgs false
/-- lexL by fuel, to be reckoned with. -/
def lexF : Nat → Nat → List UInt8 → Out
  | 0, pos, _ => .ok [⟨4, [], 0, pos⟩]
  | _ + 1, pos, [] => .ok [⟨4, [], 0, pos⟩]
  | f + 1, pos, b :: r => match nx b r with
    | .skip k => lexF f (pos + k) (r.drop (k - 1))
    | .tok kind k n => pre [⟨kind, (b :: r).take k, n, pos⟩] (lexF f (pos + k) (r.drop (k - 1)))
    | .bad e => .error (e, pos)
theorem lexF_eq : ∀ (f pos : Nat) (l : List UInt8), l.length ≤ f → lexF f pos l = lexL pos l
  | 0, pos, l, h => by
    have : l = [] := List.eq_nil_of_length_eq_zero (by omega)
    subst this
    rw [lex_nil]
    rfl
  | f + 1, pos, [], h => by
    rw [lex_nil]
    rfl
  | f + 1, pos, b :: r, h => by
    simp only [List.length_cons] at h
    unfold lexF
    rw [lexL]
    cases nx b r with
    | skip k =>
      simp only
      exact lexF_eq f _ _ (by rw [List.length_drop]; omega)
    | tok kind k n =>
      simp only
      rw [lexF_eq f _ _ (by rw [List.length_drop]; omega)]
    | bad e => rfl
end Go.Proofs.YtchokfgffnomoaaDoor.L
namespace Go.Proofs.YtchokfgffnomoaaDoor.Lx
open Go.RowKit
open L (Tok)
open P (EX CO ST PG)
set_option maxRecDepth 100000
set_option linter.unusedVariables false
set_option linter.unusedSimpArgs false
theorem take_front (b : UInt8) (r : List UInt8) (k : Nat) : ∃ q, (b :: r).take (k + 1) = b :: q := ⟨r.take k, rfl⟩
theorem nx_fine {b : UInt8} {r : List UInt8} {kind k n : Nat} (h : L.nx b r = .tok kind k n) (v pos : Nat) : Fine ⟨kind, (b :: r).take k, v, pos⟩ := by
  unfold L.nx at h
  split at h
  · cases h
  · split at h
    · cases h
    · split at h
      · rename_i hl
        cases h
        have e : L.run L.alnB (b :: r) = L.run L.alnB r + 1 := L.run_cons_pos _ (by simp [L.alnB, hl])
        exact .inl ⟨rfl, b, _, by rw [e]; rfl, hl⟩
      · split at h
        · rename_i hd
          split at h
          · cases h
            have e : L.run L.digB (b :: r) = L.run L.digB r + 1 := L.run_cons_pos _ hd
            exact .inr (.inr (.inl ⟨rfl, b, _, by show (b :: r).take (L.run L.digB (b :: r)) = _; rw [e]; rfl, hd⟩))
          · cases h
        · split at h
          · split at h
            · cases h
              exact .inr (.inl rfl)
            · cases h
              exact .inr (.inl rfl)
          · split at h
            · cases h
              exact .inr (.inl rfl)
            · cases h
/-- Tokens that a text has. -/
structure Good (n : Nat) (ts : List Tok) : Prop where
  fine : ∀ t ∈ ts, Fine t
  len : ts.length ≤ n + 1
  last : ∃ us p, ts = us ++ [⟨4, [], 0, p⟩]
theorem lexF_good : ∀ (f pos : Nat) (l : List UInt8) (ts : List Tok), L.lexF f pos l = .ok ts → Good f ts
  | 0, pos, l, ts, h => by
    cases h
    exact ⟨fun t ht => by
      have : t = ⟨4, [], 0, pos⟩ := by simpa using ht
      subst this
      exact .inr (.inr (.inr ⟨rfl, rfl⟩)), by simp, [], pos, rfl⟩
  | f + 1, pos, [], ts, h => by
    cases h
    exact ⟨fun t ht => by
      have : t = ⟨4, [], 0, pos⟩ := by simpa using ht
      subst this
      exact .inr (.inr (.inr ⟨rfl, rfl⟩)), by simp, [], pos, rfl⟩
  | f + 1, pos, b :: r, ts, h => by
    unfold L.lexF at h
    split at h
    · rename_i k hk
      have g := lexF_good f _ _ _ h
      exact ⟨g.fine, by have := g.len; omega, g.last⟩
    · rename_i kind k n hk
      cases h2 : L.lexF f (pos + k) (r.drop (k - 1)) with
      | error e => rw [h2] at h; cases h
      | ok us =>
        rw [h2] at h
        have g := lexF_good f _ _ _ h2
        cases h
        refine ⟨fun t ht => ?_, by have := g.len; simp; omega, ?_⟩
        · rcases List.mem_cons.1 ht with rfl | ht
          · exact nx_fine hk _ _
          · exact g.fine t ht
        · obtain ⟨vs, p, rfl⟩ := g.last
          exact ⟨_ :: vs, p, rfl⟩
    · cases h
theorem lexA_good {s : ByteArray} {ts : List Tok} (h : lexA s = .ok ts) : Good 4096 ts := by
  unfold lexA at h
  split at h
  · rename_i hs
    have h2 : (by' s).length ≤ 4096 := by
      simpa [by'] using hs
    rw [← L.lexF_eq 4096 _ _ h2] at h
    exact lexF_good _ _ _ _ h
  · cases h
theorem Good.fin {n : Nat} {ts : List Tok} (h : Good n ts) : (tat ts (ts.length - 1)).kind = 4 ∧ 0 < ts.length := by
  obtain ⟨us, p, rfl⟩ := h.last
  simp [tat]
theorem Good.at {n : Nat} {ts : List Tok} (h : Good n ts) (i : Nat) (hi : i < ts.length) : Fine (tat ts i) := h.fine _ (by
  unfold tat
  rw [List.getD_eq_getElem?_getD, List.getElem?_eq_getElem hi]
  exact List.getElem_mem hi)
/-! ### what is read of a text -/
def parA (s : ByteArray) : Except (Nat × Nat) (PG × List Nat) :=
  match lexA s with
  | .error (e, p) => .error (eno e, p)
  | .ok ts =>
    match P.pProg ts with
    | .error q => .error (2, q)
    | .ok x => .ok x
def pg0 : PG := ⟨[], 0, [], [], 0, .mk 0 0 [] 0 []⟩
def ppg : Except (Nat × Nat) (PG × List Nat) → PG
  | .ok (p, _) => p
  | .error _ => pg0
def ppl : Except (Nat × Nat) (PG × List Nat) → List Nat
  | .ok (_, l) => l
  | .error _ => []
def pfl : Except (Nat × Nat) (PG × List Nat) → Value
  | .ok _ => .agg #[.int .i64 0, .int .i64 0]
  | .error (e, p) => .agg #[.int .i64 (e : Nat), .int .i64 (p : Nat)]
/-- A program, places, a fault. -/
def ReadTo (o : Except (Nat × Nat) (PG × List Nat)) (w : World) (e : Ending) (w' : World) : Prop :=
  ∃ vp vl, e = .returned (.tuple #[vp, vl, pfl o]) ∧ LPg (From w.heap.size) w' vp (ppg o) ∧ OwnP w' w.heap.size vl (ppl o) ∧ Below w.heap.size w w'
theorem LPg.any {Q : Nat → Prop} {w : World} {v : Value} {p : PG} (h : LPg Q w v p) : AnyPg v := by
  obtain ⟨vi, vt, o, t, s, n, a, m, c, rfl, ⟨a1, c1, rfl, _⟩, ⟨a2, c2, rfl, _⟩, _⟩ := h
  exact ⟨_, _, _, _, _, _, _, _, _, _, _, _, _, _, _, _, rfl⟩
theorem lpg_zero {Q : Nat → Prop} {w : World} : LPg Q w (.agg #[.string ⟨#[]⟩, .int .i64 0, .slice none 0 0, .slice none 0 0, .int .i64 0, .int .i64 0, .int .i64 0, .string ⟨#[]⟩, .int .i64 0, .slice none 0 0]) pg0 :=
  ⟨_, _, _, _, _, _, _, _, _, rfl, ⟨_, _, rfl, Nat.zero_le _, .inl rfl⟩, ⟨_, _, rfl, Nat.zero_le _, .inl rfl⟩, by
    unfold pg0 LC
    exact ⟨_, _, rfl, Nat.zero_le _, .inl rfl⟩⟩
theorem results_three {P : Program} {fn : Func} {q p r : Tmp} {ty ty' : TypeId} (h : fn.results = #[.cell p ty, .tmp q, .cell r ty']) (tmps : Array Value) (w : World) (v : Value) (g g' : Nat) (t t' : TypeId) (cs cs' : Array Value) (fr fr' : Nat × Nat) (d d' : TypeDesc)
    (hp : tmps.getD p undef = .pointer (some ⟨g, 0, none⟩)) (hq : tmps.getD q undef = v) (hr : tmps.getD r undef = .pointer (some ⟨g', 0, none⟩)) (hg : w.heap[g]? = some (.cells cs t fr)) (hg' : w.heap[g']? = some (.cells cs' t' fr'))
    (hu : P.underlying ty = some d) (hd : (match d with | .struct _ | .array _ _ => true | _ => false) = true) (hi : (P.info? ty).map (·.size) = some cs.size)
    (hu' : P.underlying ty' = some d') (hd' : (match d' with | .struct _ | .array _ _ => true | _ => false) = true) (hi' : (P.info? ty').map (·.size) = some cs'.size) :
    (results fn tmps).run P w = .ok (.tuple #[.agg cs, v, .agg cs']) w := by
  have hp' : tmps[p]?.getD undef = .pointer (some ⟨g, 0, none⟩) := by simpa using hp
  have hq' : tmps[q]?.getD undef = v := by simpa using hq
  have hr' : tmps[r]?.getD undef = .pointer (some ⟨g', 0, none⟩) := by simpa using hr
  simp [results, h, hp', hq', hr', asAddr, run_loadVar_row w g t ty cs fr d hg hu hd hi, run_loadVar_row w g' t' ty' cs' fr' d' hg' hu' hd' hi']
theorem results_cells {P : Program} {fn : Func} {p r : Tmp} {ty ty' : TypeId} (h : fn.results = #[.cell p ty, .cell r ty']) (tmps : Array Value) (w : World) (g g' : Nat) (t t' : TypeId) (cs cs' : Array Value) (fr fr' : Nat × Nat) (d d' : TypeDesc)
    (hp : tmps.getD p undef = .pointer (some ⟨g, 0, none⟩)) (hr : tmps.getD r undef = .pointer (some ⟨g', 0, none⟩)) (hg : w.heap[g]? = some (.cells cs t fr)) (hg' : w.heap[g']? = some (.cells cs' t' fr'))
    (hu : P.underlying ty = some d) (hd : (match d with | .struct _ | .array _ _ => true | _ => false) = true) (hi : (P.info? ty).map (·.size) = some cs.size)
    (hu' : P.underlying ty' = some d') (hd' : (match d' with | .struct _ | .array _ _ => true | _ => false) = true) (hi' : (P.info? ty').map (·.size) = some cs'.size) :
    (results fn tmps).run P w = .ok (.tuple #[.agg cs, .agg cs']) w := by
  have hp' : tmps[p]?.getD undef = .pointer (some ⟨g, 0, none⟩) := by simpa using hp
  have hr' : tmps[r]?.getD undef = .pointer (some ⟨g', 0, none⟩) := by simpa using hr
  simp [results, h, hp', hr', asAddr, run_loadVar_row w g t ty cs fr d hg hu hd hi, run_loadVar_row w g' t' ty' cs' fr' d' hg' hu' hd' hi']
end Go.Proofs.YtchokfgffnomoaaDoor.Lx
/-
  read, Parse, Places: contracts.
-/
namespace Go.Proofs.YtchokfgffnomoaaDoor.Lx
open Go.RowKit
open L (Tok)
open P (EX CO ST PG)
set_option maxRecDepth 100000
set_option linter.unusedVariables false
set_option linter.unusedSimpArgs false
theorem eno_b (x : L.Bad) : (((eno x : Nat) : Int) != 0) = true := by cases x <;> decide
def LexBad (x : L.Bad) (p : Nat) (w : World) (e : Ending) (w' : World) : Prop := ∃ a c, e = .returned (.tuple #[.slice a 0 c, .agg #[.int .i64 (eno x : Nat), .int .i64 (p : Nat)]]) ∧ Below w.heap.size w w'
theorem two_free {w : World} {g : Nat} {t : TypeId} {a b : Value} (hh : Blk w g t #[a, b]) : w.cell? ⟨g, 0, none⟩ = some a ∧ w.cell? ⟨g, 1, none⟩ = some b ∧ w.frozen? ⟨g, 0, none⟩ = false ∧ w.frozen? ⟨g, 1, none⟩ = false := ⟨hh.cell 0, hh.cell 1, hh.free 0, hh.free 1⟩
def LexOk (ts : List Tok) (w : World) (e : Ending) (w' : World) : Prop := ∃ g cap, e = .returned (.tuple #[.slice (some ⟨g, 0, none⟩) ts.length cap, .agg #[.int .i64 0, .int .i64 0]]) ∧ w.heap.size ≤ g ∧ g < w'.heap.size ∧ (∀ i, i < ts.length → Four w' g (i * 4) (tat ts i)) ∧ ts.length ≤ cap ∧ Below w.heap.size w w'
end Go.Proofs.YtchokfgffnomoaaDoor.Lx
/-
  Parse, Places: contracts.
-/
namespace Go.Proofs.YtchokfgffnomoaaDoor.Lx
open Go.RowKit
open L (Tok)
open P (EX CO ST PG)
set_option maxRecDepth 100000
set_option linter.unusedVariables false
set_option linter.unusedSimpArgs false
theorem pfl_two (o : Except (Nat × Nat) (PG × List Nat)) : ∃ a b : Int, pfl o = .agg #[.int .i64 a, .int .i64 b] := by
  rcases o with ⟨e, p⟩ | x
  · exact ⟨_, _, rfl⟩
  · exact ⟨_, _, rfl⟩
def ParseTo (o : Except (Nat × Nat) (PG × List Nat)) (w : World) (e : Ending) (w' : World) : Prop :=
  ∃ vp, e = .returned (.tuple #[vp, pfl o]) ∧ LPg (From w.heap.size) w' vp (ppg o) ∧ Below w.heap.size w w'
def PlacesTo (o : Except (Nat × Nat) (PG × List Nat)) (w : World) (e : Ending) (w' : World) : Prop :=
  ∃ vl, e = .returned (.tuple #[vl, pfl o]) ∧ OwnP w' w.heap.size vl (ppl o) ∧ Below w.heap.size w w'
end Go.Proofs.YtchokfgffnomoaaDoor.Lx
