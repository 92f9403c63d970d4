/-
  What a text's tokens are like; and what is read of a text: plain words.
-/
import Derived.Test.YtgobcflfhabdhaaGreatDoorDP
import Derived.Test.YtgobcflfhabdhaaGreatDoorLLex
namespace Go.Proofs.YtgobcflfhabdhaaGreatDoor.L
set_option linter.unusedVariables false
set_option linter.unusedSimpArgs false
/-- lexL by fuel, to be reckoned with. -/
def lexF : Nat → Nat → List UInt8 → Out
  | 0, pos, _ => .ok [⟨4, [], 0, pos⟩]
  | _ + 1, pos, [] => .ok [⟨4, [], 0, pos⟩]
  | f + 1, pos, b :: r => match nx b r with
    | .skip k => lexF f (pos + k) (r.drop (k - 1))
    | .tok kind k n => pre [⟨kind, (b :: r).take k, n, pos⟩] (lexF f (pos + k) (r.drop (k - 1)))
    | .bad e => .error (e, pos)
theorem lexF_eq : ∀ (f pos : Nat) (l : List UInt8), l.length ≤ f → lexF f pos l = lexL pos l
  | 0, pos, l, h => by
    have : l = [] := List.eq_nil_of_length_eq_zero (by omega)
    subst this
    rw [lex_nil]
    rfl
  | f + 1, pos, [], h => by
    rw [lex_nil]
    rfl
  | f + 1, pos, b :: r, h => by
    simp only [List.length_cons] at h
    unfold lexF
    rw [lexL]
    cases nx b r with
    | skip k =>
      simp only
      exact lexF_eq f _ _ (by rw [List.length_drop]; omega)
    | tok kind k n =>
      simp only
      rw [lexF_eq f _ _ (by rw [List.length_drop]; omega)]
    | bad e => rfl
end Go.Proofs.YtgobcflfhabdhaaGreatDoor.L
namespace Go.Proofs.YtgobcflfhabdhaaGreatDoor.Lx
open Go.RowKit
open L (Tok)
open P (EX CO ST PG)
set_option maxRecDepth 100000
set_option linter.unusedVariables false
set_option linter.unusedSimpArgs false
theorem take_front (b : UInt8) (r : List UInt8) (k : Nat) : ∃ q, (b :: r).take (k + 1) = b :: q := ⟨r.take k, rfl⟩
theorem nx_fine {b : UInt8} {r : List UInt8} {kind k n : Nat} (h : L.nx b r = .tok kind k n) (v pos : Nat) : Fine ⟨kind, (b :: r).take k, v, pos⟩ := by
  unfold L.nx at h
  split at h
  · cases h
  · split at h
    · cases h
    · split at h
      · rename_i hl
        cases h
        have e : L.run L.alnB (b :: r) = L.run L.alnB r + 1 := L.run_cons_pos _ (by simp [L.alnB, hl])
        exact .inl ⟨rfl, b, _, by rw [e]; rfl, hl⟩
      · split at h
        · rename_i hd
          split at h
          · cases h
            have e : L.run L.digB (b :: r) = L.run L.digB r + 1 := L.run_cons_pos _ hd
            exact .inr (.inr (.inl ⟨rfl, b, _, by show (b :: r).take (L.run L.digB (b :: r)) = _; rw [e]; rfl, hd⟩))
          · cases h
        · split at h
          · split at h
            · cases h
              exact .inr (.inl rfl)
            · cases h
              exact .inr (.inl rfl)
          · split at h
            · cases h
              exact .inr (.inl rfl)
            · cases h
/-- Tokens that a text has. -/
structure Good (n : Nat) (ts : List Tok) : Prop where
  fine : ∀ t ∈ ts, Fine t
  len : ts.length ≤ n + 1
  last : ∃ us p, ts = us ++ [⟨4, [], 0, p⟩]
theorem lexF_good : ∀ (f pos : Nat) (l : List UInt8) (ts : List Tok), L.lexF f pos l = .ok ts → Good f ts
  | 0, pos, l, ts, h => by
    cases h
    exact ⟨fun t ht => by
      have : t = ⟨4, [], 0, pos⟩ := by simpa using ht
      subst this
      exact .inr (.inr (.inr ⟨rfl, rfl⟩)), by simp, [], pos, rfl⟩
  | f + 1, pos, [], ts, h => by
    cases h
    exact ⟨fun t ht => by
      have : t = ⟨4, [], 0, pos⟩ := by simpa using ht
      subst this
      exact .inr (.inr (.inr ⟨rfl, rfl⟩)), by simp, [], pos, rfl⟩
  | f + 1, pos, b :: r, ts, h => by
    unfold L.lexF at h
    split at h
    · rename_i k hk
      have g := lexF_good f _ _ _ h
      exact ⟨g.fine, by have := g.len; omega, g.last⟩
    · rename_i kind k n hk
      cases h2 : L.lexF f (pos + k) (r.drop (k - 1)) with
      | error e => rw [h2] at h; cases h
      | ok us =>
        rw [h2] at h
        have g := lexF_good f _ _ _ h2
        cases h
        refine ⟨fun t ht => ?_, by have := g.len; simp; omega, ?_⟩
        · rcases List.mem_cons.1 ht with rfl | ht
          · exact nx_fine hk _ _
          · exact g.fine t ht
        · obtain ⟨vs, p, rfl⟩ := g.last
          exact ⟨_ :: vs, p, rfl⟩
    · cases h
theorem lexA_good {s : ByteArray} {ts : List Tok} (h : lexA s = .ok ts) : Good 4096 ts := by
  unfold lexA at h
  split at h
  · rename_i hs
    have h2 : (by' s).length ≤ 4096 := by
      simpa [by'] using hs
    rw [← L.lexF_eq 4096 _ _ h2] at h
    exact lexF_good _ _ _ _ h
  · cases h
theorem Good.fin {n : Nat} {ts : List Tok} (h : Good n ts) : (tat ts (ts.length - 1)).kind = 4 ∧ 0 < ts.length := by
  obtain ⟨us, p, rfl⟩ := h.last
  simp [tat]
theorem Good.at {n : Nat} {ts : List Tok} (h : Good n ts) (i : Nat) (hi : i < ts.length) : Fine (tat ts i) := h.fine _ (by
  unfold tat
  rw [List.getD_eq_getElem?_getD, List.getElem?_eq_getElem hi]
  exact List.getElem_mem hi)
/-! ### what is read of a text -/
def parA (s : ByteArray) : Except (Nat × Nat) (PG × List Nat) :=
  match lexA s with
  | .error (e, p) => .error (eno e, p)
  | .ok ts =>
    match P.pProg ts with
    | .error q => .error (2, q)
    | .ok x => .ok x
def pg0 : PG := ⟨[], 0, [], [], 0, .mk 0 0 [] 0 []⟩
def ppg : Except (Nat × Nat) (PG × List Nat) → PG
  | .ok (p, _) => p
  | .error _ => pg0
def ppl : Except (Nat × Nat) (PG × List Nat) → List Nat
  | .ok (_, l) => l
  | .error _ => []
def pfl : Except (Nat × Nat) (PG × List Nat) → Value
  | .ok _ => .agg #[.int .i64 0, .int .i64 0]
  | .error (e, p) => .agg #[.int .i64 (e : Nat), .int .i64 (p : Nat)]
/-- A program, places, a fault. -/
def ReadTo (o : Except (Nat × Nat) (PG × List Nat)) (w : World) (e : Ending) (w' : World) : Prop :=
  ∃ vp vl, e = .returned (.tuple #[vp, vl, pfl o]) ∧ LPg (From w.heap.size) w' vp (ppg o) ∧ OwnP w' w.heap.size vl (ppl o) ∧ Below w.heap.size w w'
theorem LPg.any {Q : Nat → Prop} {w : World} {v : Value} {p : PG} (h : LPg Q w v p) : AnyPg v := by
  obtain ⟨vi, vt, o, t, s, n, a, m, c, rfl, ⟨a1, c1, rfl, _⟩, ⟨a2, c2, rfl, _⟩, _⟩ := h
  exact ⟨_, _, _, _, _, _, _, _, _, _, _, _, _, _, _, _, rfl⟩
theorem lpg_zero {Q : Nat → Prop} {w : World} : LPg Q w (.agg #[.string ⟨#[]⟩, .int .i64 0, .slice none 0 0, .slice none 0 0, .int .i64 0, .int .i64 0, .int .i64 0, .string ⟨#[]⟩, .int .i64 0, .slice none 0 0]) pg0 :=
  ⟨_, _, _, _, _, _, _, _, _, rfl, ⟨_, _, rfl, Nat.zero_le _, .inl rfl⟩, ⟨_, _, rfl, Nat.zero_le _, .inl rfl⟩, by
    unfold pg0 LC
    exact ⟨_, _, rfl, Nat.zero_le _, .inl rfl⟩⟩
theorem results_three {P : Program} {fn : Func} {q p r : Tmp} {ty ty' : TypeId} (h : fn.results = #[.cell p ty, .tmp q, .cell r ty']) (tmps : Array Value) (w : World) (v : Value) (g g' : Nat) (t t' : TypeId) (cs cs' : Array Value) (fr fr' : Nat × Nat) (d d' : TypeDesc)
    (hp : tmps.getD p undef = .pointer (some ⟨g, 0, none⟩)) (hq : tmps.getD q undef = v) (hr : tmps.getD r undef = .pointer (some ⟨g', 0, none⟩)) (hg : w.heap[g]? = some (.cells cs t fr)) (hg' : w.heap[g']? = some (.cells cs' t' fr'))
    (hu : P.underlying ty = some d) (hd : (match d with | .struct _ | .array _ _ => true | _ => false) = true) (hi : (P.info? ty).map (·.size) = some cs.size)
    (hu' : P.underlying ty' = some d') (hd' : (match d' with | .struct _ | .array _ _ => true | _ => false) = true) (hi' : (P.info? ty').map (·.size) = some cs'.size) :
    (results fn tmps).run P w = .ok (.tuple #[.agg cs, v, .agg cs']) w := by
  have hp' : tmps[p]?.getD undef = .pointer (some ⟨g, 0, none⟩) := by simpa using hp
  have hq' : tmps[q]?.getD undef = v := by simpa using hq
  have hr' : tmps[r]?.getD undef = .pointer (some ⟨g', 0, none⟩) := by simpa using hr
  simp [results, h, hp', hq', hr', asAddr, run_loadVar_row w g t ty cs fr d hg hu hd hi, run_loadVar_row w g' t' ty' cs' fr' d' hg' hu' hd' hi']
theorem results_cells {P : Program} {fn : Func} {p r : Tmp} {ty ty' : TypeId} (h : fn.results = #[.cell p ty, .cell r ty']) (tmps : Array Value) (w : World) (g g' : Nat) (t t' : TypeId) (cs cs' : Array Value) (fr fr' : Nat × Nat) (d d' : TypeDesc)
    (hp : tmps.getD p undef = .pointer (some ⟨g, 0, none⟩)) (hr : tmps.getD r undef = .pointer (some ⟨g', 0, none⟩)) (hg : w.heap[g]? = some (.cells cs t fr)) (hg' : w.heap[g']? = some (.cells cs' t' fr'))
    (hu : P.underlying ty = some d) (hd : (match d with | .struct _ | .array _ _ => true | _ => false) = true) (hi : (P.info? ty).map (·.size) = some cs.size)
    (hu' : P.underlying ty' = some d') (hd' : (match d' with | .struct _ | .array _ _ => true | _ => false) = true) (hi' : (P.info? ty').map (·.size) = some cs'.size) :
    (results fn tmps).run P w = .ok (.tuple #[.agg cs, .agg cs']) w := by
  have hp' : tmps[p]?.getD undef = .pointer (some ⟨g, 0, none⟩) := by simpa using hp
  have hr' : tmps[r]?.getD undef = .pointer (some ⟨g', 0, none⟩) := by simpa using hr
  simp [results, h, hp', hr', asAddr, run_loadVar_row w g t ty cs fr d hg hu hd hi, run_loadVar_row w g' t' ty' cs' fr' d' hg' hu' hd' hi']
end Go.Proofs.YtgobcflfhabdhaaGreatDoor.Lx
/-
  read, Parse, Places: contracts.
-/
namespace Go.Proofs.YtgobcflfhabdhaaGreatDoor.Lx
open Go.RowKit
open L (Tok)
open P (EX CO ST PG)
set_option maxRecDepth 100000
set_option linter.unusedVariables false
set_option linter.unusedSimpArgs false
theorem eno_b (x : L.Bad) : (((eno x : Nat) : Int) != 0) = true := by cases x <;> decide
def LexBad (x : L.Bad) (p : Nat) (w : World) (e : Ending) (w' : World) : Prop := ∃ a c, e = .returned (.tuple #[.slice a 0 c, .agg #[.int .i64 (eno x : Nat), .int .i64 (p : Nat)]]) ∧ Below w.heap.size w w'
theorem lex_err (s : ByteArray) (w : World) (x : L.Bad) (p : Nat) (h : lexA s = .error (x, p)) : Calls Tryz.prog 34 #[.string s] w (LexBad x p w) := by
  refine (lex_any s w).mono ?_
  rintro e w' ⟨v, rfl, ho, hb⟩
  rw [h] at ho ⊢
  obtain ⟨a, c, rfl⟩ := slice_of_own ho
  exact ⟨a, c, rfl, hb⟩
theorem two_free {w : World} {g : Nat} {t : TypeId} {a b : Value} (hh : Blk w g t #[a, b]) : w.cell? ⟨g, 0, none⟩ = some a ∧ w.cell? ⟨g, 1, none⟩ = some b ∧ w.frozen? ⟨g, 0, none⟩ = false ∧ w.frozen? ⟨g, 1, none⟩ = false := ⟨hh.cell 0, hh.cell 1, hh.free 0, hh.free 1⟩
set_option maxHeartbeats 3200000 in
theorem read_bad (s : ByteArray) (w : World) (x : L.Bad) (p : Nat) (h : lexA s = .error (x, p)) : Calls Tryz.prog 21 #[.string s] w (ReadTo (.error (eno x, p)) w) := by
  have HL := Lib.hid (fun w => lex_err s w x p h)
  have hne := eno_b x
  clear h
  go_enter Tryz.func21, Tryz.ntmps21
  go_wp2_with fail
  have hbA : Below w.heap.size w ((w.alloc (.cells #[.string ⟨#[]⟩, .int .i64 0, .slice none 0 0, .slice none 0 0, .int .i64 0, .int .i64 0, .int .i64 0, .string ⟨#[]⟩, .int .i64 0, .slice none 0 0] 30)).alloc (.cells #[.int .i64 0, .int .i64 0] 37)) := ((Below.refl _ _).alloc (Nat.le_refl _) _).alloc (by simp) _
  have HR0 := Lib.hid ((Blk.new w 30 #[.string ⟨#[]⟩, .int .i64 0, .slice none 0 0, .slice none 0 0, .int .i64 0, .int .i64 0, .int .i64 0, .string ⟨#[]⟩, .int .i64 0, .slice none 0 0]).alloc (.cells #[.int .i64 0, .int .i64 0] 37))
  have hB0 := Blk.new (w.alloc (.cells #[.string ⟨#[]⟩, .int .i64 0, .slice none 0 0, .slice none 0 0, .int .i64 0, .int .i64 0, .int .i64 0, .string ⟨#[]⟩, .int .i64 0, .slice none 0 0] 30)) 37 #[.int .i64 0, .int .i64 0]
  rw [show (w.alloc (.cells #[.string ⟨#[]⟩, .int .i64 0, .slice none 0 0, .slice none 0 0, .int .i64 0, .int .i64 0, .int .i64 0, .string ⟨#[]⟩, .int .i64 0, .slice none 0 0] 30)).heap.size = w.heap.size + 1 by simp] at hB0
  have HB0 := Lib.hid hB0
  clear hB0
  generalize (w.alloc (.cells #[.string ⟨#[]⟩, .int .i64 0, .slice none 0 0, .slice none 0 0, .int .i64 0, .int .i64 0, .int .i64 0, .string ⟨#[]⟩, .int .i64 0, .slice none 0 0] 30)).alloc (.cells #[.int .i64 0, .int .i64 0] 37) = w1 at *
  have hcall := HL.out w1
  with_reducible refine hcall.mono ?_
  rintro e w2 ⟨a, c, rfl, hb⟩
  clear hcall
  have HR2 := Lib.hid (HR0.out.live' hb)
  have HB2 := Lib.hid (HB0.out.live' hb)
  have HBL := Lib.hid (hbA.trans (hb.mono hbA.size))
  clear hb hbA HR0 HB0
  generalize hex : ((eno x : Nat) : Int) = ex at *
  have HEX := Lib.hid hex
  clear hex
  obtain ⟨⟨c0, c1, c2, c3, c4, c5, c6, c7, c8, c9⟩, f0, f1, f2, f3, f4, f5, f6, f7, f8, f9⟩ := ten_free HR2.out
  obtain ⟨d0, d1, e0, e1⟩ := two_free HB2.out
  have l1 := HR2.out.lt
  have l2 := HB2.out.lt
  go_wp2_with fail
  have l3 : ¬ w.heap.size = w2.heap.size := by omega
  have l4 : ¬ w.heap.size + 1 = w2.heap.size := by omega
  go_region
  all_goals
    go_wp2_with fail
    have hK1 := ((put10 (a' := .string ⟨#[]⟩) (b' := .int .i64 0) (c' := .slice none 0 0) (d' := .slice none 0 0) (e' := .int .i64 0) (f' := .int .i64 0) (h' := .int .i64 0) (i' := .string ⟨#[]⟩) (j' := .int .i64 0) (k' := .slice none 0 0) HR2.out).only (Only.put2 (Only.refl (fun b => b = w.heap.size + 1) _) (.inl rfl) (.int .i64 ex) (.int .i64 (p : Nat))) (by omega)).alloc (.cells #[.int .i64 ex, .int .i64 (p : Nat)] 37)
    have hK2 := (put2 (a' := .int .i64 ex) (b' := .int .i64 (p : Nat)) (HB2.out.only (Only.put10 (Only.refl (fun b => b = w.heap.size) _) (.inl rfl) (.string ⟨#[]⟩) (.int .i64 0) (.slice none 0 0) (.slice none 0 0) (.int .i64 0) (.int .i64 0) (.int .i64 0) (.string ⟨#[]⟩) (.int .i64 0) (.slice none 0 0)) (by omega))).alloc (.cells #[.int .i64 ex, .int .i64 (p : Nat)] 37)
    refine bodyPost_ret (results_three (p := 2) (q := 3) (r := 4) rfl _ _ _ _ _ _ _ _ _ (0, 0) (0, 0) _ _ rfl rfl rfl hK1 hK2 Tryz.underlying30 rfl (by kernel_rfl) Tryz.underlying37 rfl (by kernel_rfl)) rfl ?_
    refine ⟨_, _, by rw [← HEX.out]; rfl, lpg_zero, World.ownsRow_nil _ _ _ _, ?_⟩
    exact ((((Only.put2 (Only.put10 (Only.of_below (S := fun _ => False) HBL.out) (.inr (Nat.le_refl _)) (.string ⟨#[]⟩) (.int .i64 0) (.slice none 0 0) (.slice none 0 0) (.int .i64 0) (.int .i64 0) (.int .i64 0) (.string ⟨#[]⟩) (.int .i64 0) (.slice none 0 0)) (.inr (Nat.le_succ _)) (.int .i64 ex) (.int .i64 (p : Nat))).alloc (.cells #[.int .i64 ex, .int .i64 (p : Nat)] 37)).drew).below (Nat.le_refl _) (fun _ _ h => h))
def LexOk (ts : List Tok) (w : World) (e : Ending) (w' : World) : Prop := ∃ g cap, e = .returned (.tuple #[.slice (some ⟨g, 0, none⟩) ts.length cap, .agg #[.int .i64 0, .int .i64 0]]) ∧ w.heap.size ≤ g ∧ g < w'.heap.size ∧ (∀ i, i < ts.length → Four w' g (i * 4) (tat ts i)) ∧ ts.length ≤ cap ∧ Below w.heap.size w w'
theorem lex_fit (s : ByteArray) (w : World) (ts : List Tok) (h : lexA s = .ok ts) (h0 : 0 < ts.length) : Calls Tryz.prog 34 #[.string s] w (LexOk ts w) := by
  refine (lex_any s w).mono ?_
  rintro e w' ⟨v, rfl, ho, hb⟩
  rw [h] at ho ⊢
  have ho' : Own w' w.heap.size v ts := ho
  obtain ⟨g, cap, rfl, h1, h2, h3⟩ := own_row ho' h0
  refine ⟨g, cap, rfl, h1, h2, h3, ?_, hb⟩
  rcases ho'.2 with ⟨hx, _⟩ | ⟨g', cap', cur, hx, hg, hh, hn, _⟩
  · cases hx
  · cases hx
    exact hn
set_option maxHeartbeats 6400000 in
theorem read_fit (s : ByteArray) (w : World) (ts : List Tok) (h : lexA s = .ok ts) : Calls Tryz.prog 21 #[.string s] w (ReadTo (parA s) w) := by
  have hG := lexA_good h
  obtain ⟨hfin, hpos⟩ := hG.fin
  have HPA := Lib.hid (show parA s = (match P.pProg ts with | .error q => .error (2, q) | .ok x => .ok x) by unfold parA; rw [h] <;> rfl)
  have HL := Lib.hid (fun w => lex_fit s w ts h hpos)
  have HG := Lib.hid hG
  have HFN := Lib.hid hfin
  have hlen := hG.len
  have HFT := Lib.hid (fits ts)
  clear h hG hfin
  go_enter Tryz.func21, Tryz.ntmps21
  go_wp2_with fail
  have hbA : Below w.heap.size w ((w.alloc (.cells #[.string ⟨#[]⟩, .int .i64 0, .slice none 0 0, .slice none 0 0, .int .i64 0, .int .i64 0, .int .i64 0, .string ⟨#[]⟩, .int .i64 0, .slice none 0 0] 30)).alloc (.cells #[.int .i64 0, .int .i64 0] 37)) := ((Below.refl _ _).alloc (Nat.le_refl _) _).alloc (by simp) _
  have HR0 := Lib.hid ((Blk.new w 30 #[.string ⟨#[]⟩, .int .i64 0, .slice none 0 0, .slice none 0 0, .int .i64 0, .int .i64 0, .int .i64 0, .string ⟨#[]⟩, .int .i64 0, .slice none 0 0]).alloc (.cells #[.int .i64 0, .int .i64 0] 37))
  have hB0 := Blk.new (w.alloc (.cells #[.string ⟨#[]⟩, .int .i64 0, .slice none 0 0, .slice none 0 0, .int .i64 0, .int .i64 0, .int .i64 0, .string ⟨#[]⟩, .int .i64 0, .slice none 0 0] 30)) 37 #[.int .i64 0, .int .i64 0]
  rw [show (w.alloc (.cells #[.string ⟨#[]⟩, .int .i64 0, .slice none 0 0, .slice none 0 0, .int .i64 0, .int .i64 0, .int .i64 0, .string ⟨#[]⟩, .int .i64 0, .slice none 0 0] 30)).heap.size = w.heap.size + 1 by simp] at hB0
  have HB0 := Lib.hid hB0
  clear hB0
  generalize (w.alloc (.cells #[.string ⟨#[]⟩, .int .i64 0, .slice none 0 0, .slice none 0 0, .int .i64 0, .int .i64 0, .int .i64 0, .string ⟨#[]⟩, .int .i64 0, .slice none 0 0] 30)).alloc (.cells #[.int .i64 0, .int .i64 0] 37) = w1 at *
  have hcall := HL.out w1
  with_reducible refine hcall.mono ?_
  rintro e w2 ⟨g, cap, rfl, hg1, hg2, hrow, hcap, hb⟩
  clear hcall
  have HR2 := Lib.hid (HR0.out.live' hb)
  have HB2 := Lib.hid (HB0.out.live' hb)
  have HBL := Lib.hid (hbA.trans (hb.mono hbA.size))
  have HRW := Lib.hid hrow
  have l1 := HR2.out.lt
  have l2 := HB2.out.lt
  have l3 : w.heap.size + 1 < w1.heap.size := HB0.out.lt
  clear hb hbA HR0 HB0 hrow
  go_wp2_with fail
  have hbA : Below w2.heap.size w2 ((w2.alloc (.cells #[.int .i64 0, .int .i64 0] 37)).alloc (.cells #[.slice (some ⟨g, 0, none⟩) ts.length cap, .slice none 0 0, .int .i64 0, .int .i64 0] 93)) := ((Below.refl _ _).alloc (Nat.le_refl _) _).alloc (by simp) _
  have hC0 := Blk.new (w2.alloc (.cells #[.int .i64 0, .int .i64 0] 37)) 93 #[.slice (some ⟨g, 0, none⟩) ts.length cap, .slice none 0 0, .int .i64 0, .int .i64 0]
  rw [show (w2.alloc (.cells #[.int .i64 0, .int .i64 0] 37)).heap.size = w2.heap.size + 1 by simp] at hC0
  have hlt := hC0.lt
  have HD := Lib.hid (show Dc ((w2.alloc (.cells #[.int .i64 0, .int .i64 0] 37)).alloc (.cells #[.slice (some ⟨g, 0, none⟩) ts.length cap, .slice none 0 0, .int .i64 0, .int .i64 0] 93)) (w2.heap.size + 1) g ts (.slice none 0 0) (.ok ts) from ⟨⟨_, _, _, hC0, 0, rfl, hpos, rfl, rfl, hcap⟩, fun i hi => (HRW.out i hi).only (Only.of_below (S := fun _ => False) hbA) id, by omega, by omega, hpos, HFN.out, fun i hi => HG.out.at i hi⟩)
  have HR3 := Lib.hid ((HR2.out.alloc (.cells #[.int .i64 0, .int .i64 0] 37)).alloc (.cells #[.slice (some ⟨g, 0, none⟩) ts.length cap, .slice none 0 0, .int .i64 0, .int .i64 0] 93))
  have HB3 := Lib.hid ((HB2.out.alloc (.cells #[.int .i64 0, .int .i64 0] 37)).alloc (.cells #[.slice (some ⟨g, 0, none⟩) ts.length cap, .slice none 0 0, .int .i64 0, .int .i64 0] 93))
  have HBM := Lib.hid (HBL.out.trans (hbA.mono (by omega)))
  clear hbA hC0 HBL HR2 HB2 HRW
  generalize (w2.alloc (.cells #[.int .i64 0, .int .i64 0] 37)).alloc (.cells #[.slice (some ⟨g, 0, none⟩) ts.length cap, .slice none 0 0, .int .i64 0, .int .i64 0] 93) = w3 at *
  generalize hCe : w2.heap.size + 1 = C at *
  have hC1 : w2.heap.size < C := by omega
  clear hCe
  with_reducible refine (program_d C g w3.heap.size ts (.slice none 0 0) w3 HD.out (World.ownsRow_nil _ _ _ _) (by omega) (Nat.le_refl _)).mono ?_
  rintro e w4 ⟨v, pv4, ps4, rfl, ⟨nm, vl, a1, n1, k1, a2, n2, k2, ak, xo, xt, xs, xn, xa, xm, xc, rfl⟩, ⟨ac, nc, kc, hcb⟩, hp, ho, hf, hst⟩
  have HR4 := Lib.hid (HR3.out.only ho (fun hx => hx.elim (fun e => by omega) (fun e => by cases e)))
  have HB4 := Lib.hid (HB3.out.only ho (fun hx => hx.elim (fun e => by omega) (fun e => by cases e)))
  have HON := Lib.hid (((Only.of_below (S := fun _ => False) HBM.out).then ho (fun j hx => hx.elim (fun e => .inr (by omega)) (fun e => by cases e))))
  have HST := Lib.hid hst
  have HOW := Lib.hid hp
  have hs4 := ho.size
  obtain ⟨ap, cp, rfl⟩ := slice_of_own hp
  clear hp ho hf hst HR3 HB3 HBM HD
  obtain ⟨⟨c0, c1, c2, c3, c4, c5, c6, c7, c8, c9⟩, f0, f1, f2, f3, f4, f5, f6, f7, f8, f9⟩ := ten_free HR4.out
  obtain ⟨d0, d1, e0, e1⟩ := two_free HB4.out
  have l5 := HR4.out.lt
  have l6 := HB4.out.lt
  have l7 := hcb.lt
  have y1 : ¬ w.heap.size = C := by omega
  have y2 : ¬ w.heap.size + 1 = C := by omega
  have y3 : ¬ w.heap.size = w4.heap.size := by omega
  have y4 : ¬ w.heap.size + 1 = w4.heap.size := by omega
  have y5 : ¬ C = w4.heap.size := by omega
  rcases HFT.out with ⟨q, hs, hpq⟩ | ⟨t, p, qs, hs, hpp, hss⟩
  · have HPB := Lib.hid hpq
    rw [hs] at hcb
    have hcb' : Blk w4 C 93 #[.slice ac nc kc, .slice ap ps4.length cp, .int .i64 2, .int .i64 (q : Nat)] := hcb
    obtain ⟨g0, g1, g2, g3, _, _, _, _⟩ := four_free hcb'
    clear hcb hcb' hs hpq
    go_wp2_with fail
    go_region
    all_goals
      go_wp2_with fail
      have hK1 := ((put10 (a' := .string ⟨#[]⟩) (b' := .int .i64 0) (c' := .slice none 0 0) (d' := .slice none 0 0) (e' := .int .i64 0) (f' := .int .i64 0) (h' := .int .i64 0) (i' := .string ⟨#[]⟩) (j' := .int .i64 0) (k' := .slice none 0 0) HR4.out).only (Only.put2 (Only.refl (fun b => b = w.heap.size + 1) _) (.inl rfl) (.int .i64 2) (.int .i64 (q : Nat))) (by omega)).alloc (.cells #[.string nm, .int .i64 vl, .slice a1 n1 k1, .slice a2 n2 k2, .int .i64 ak, .int .i64 xo, .int .i64 xt, .string xs, .int .i64 xn, .slice xa xm xc] 30)
      have hK2 := (put2 (a' := .int .i64 2) (b' := .int .i64 (q : Nat)) (HB4.out.only (Only.put10 (Only.refl (fun b => b = w.heap.size) _) (.inl rfl) (.string ⟨#[]⟩) (.int .i64 0) (.slice none 0 0) (.slice none 0 0) (.int .i64 0) (.int .i64 0) (.int .i64 0) (.string ⟨#[]⟩) (.int .i64 0) (.slice none 0 0)) (by omega))).alloc (.cells #[.string nm, .int .i64 vl, .slice a1 n1 k1, .slice a2 n2 k2, .int .i64 ak, .int .i64 xo, .int .i64 xt, .string xs, .int .i64 xn, .slice xa xm xc] 30)
      refine bodyPost_ret (results_three (p := 2) (q := 3) (r := 4) rfl _ _ _ _ _ _ _ _ _ (0, 0) (0, 0) _ _ rfl rfl rfl hK1 hK2 Tryz.underlying30 rfl (by kernel_rfl) Tryz.underlying37 rfl (by kernel_rfl)) rfl ?_
      have hO : Only (fun b => b = w.heap.size ∨ b = w.heap.size + 1) w4 ((((put10w w4 w.heap.size (.string ⟨#[]⟩) (.int .i64 0) (.slice none 0 0) (.slice none 0 0) (.int .i64 0) (.int .i64 0) (.int .i64 0) (.string ⟨#[]⟩) (.int .i64 0) (.slice none 0 0)).setCell ⟨w.heap.size + 1, 0, none⟩ (.int .i64 2)).setCell ⟨w.heap.size + 1, 1, none⟩ (.int .i64 (q : Nat))).alloc (.cells #[.string nm, .int .i64 vl, .slice a1 n1 k1, .slice a2 n2 k2, .int .i64 ak, .int .i64 xo, .int .i64 xt, .string xs, .int .i64 xn, .slice xa xm xc] 30)).drew := ((Only.put2 (Only.put10 (Only.refl _ w4) (.inl (.inl rfl)) (.string ⟨#[]⟩) (.int .i64 0) (.slice none 0 0) (.slice none 0 0) (.int .i64 0) (.int .i64 0) (.int .i64 0) (.string ⟨#[]⟩) (.int .i64 0) (.slice none 0 0)) (.inl (.inr rfl)) (.int .i64 2) (.int .i64 (q : Nat))).alloc (.cells #[.string nm, .int .i64 vl, .slice a1 n1 k1, .slice a2 n2 k2, .int .i64 ak, .int .i64 xo, .int .i64 xt, .string xs, .int .i64 xn, .slice xa xm xc] 30)).drew
      have hBW : Below w.heap.size w ((((put10w w4 w.heap.size (.string ⟨#[]⟩) (.int .i64 0) (.slice none 0 0) (.slice none 0 0) (.int .i64 0) (.int .i64 0) (.int .i64 0) (.string ⟨#[]⟩) (.int .i64 0) (.slice none 0 0)).setCell ⟨w.heap.size + 1, 0, none⟩ (.int .i64 2)).setCell ⟨w.heap.size + 1, 1, none⟩ (.int .i64 (q : Nat))).alloc (.cells #[.string nm, .int .i64 vl, .slice a1 n1 k1, .slice a2 n2 k2, .int .i64 ak, .int .i64 xo, .int .i64 xt, .string xs, .int .i64 xn, .slice xa xm xc] 30)).drew := ((((Only.put2 (Only.put10 HON.out (.inr (Nat.le_refl _)) (.string ⟨#[]⟩) (.int .i64 0) (.slice none 0 0) (.slice none 0 0) (.int .i64 0) (.int .i64 0) (.int .i64 0) (.string ⟨#[]⟩) (.int .i64 0) (.slice none 0 0)) (.inr (Nat.le_succ _)) (.int .i64 2) (.int .i64 (q : Nat))).alloc (.cells #[.string nm, .int .i64 vl, .slice a1 n1 k1, .slice a2 n2 k2, .int .i64 ak, .int .i64 xo, .int .i64 xt, .string xs, .int .i64 xn, .slice xa xm xc] 30)).drew).below (Nat.le_refl _) (fun _ _ h => h))
      rw [HPA.out, HPB.out]
      exact ⟨_, _, rfl, lpg_zero, World.ownsRow_nil _ _ _ _, hBW⟩
  · have HPB := Lib.hid hpp
    have HSS := Lib.hid (HST.out p qs hss)
    rw [hs] at hcb
    have hcb' : Blk w4 C 93 #[.slice ac nc kc, .slice ap ps4.length cp, .int .i64 0, .int .i64 0] := hcb
    obtain ⟨g0, g1, g2, g3, _, _, _, _⟩ := four_free hcb'
    clear hcb hcb' hs hpp hss
    go_wp2_with fail
    go_region
    all_goals
      go_wp2_with fail
      have hK1 := ((put10 (a' := .string nm) (b' := .int .i64 vl) (c' := .slice a1 n1 k1) (d' := .slice a2 n2 k2) (e' := .int .i64 ak) (f' := .int .i64 xo) (h' := .int .i64 xt) (i' := .string xs) (j' := .int .i64 xn) (k' := .slice xa xm xc) HR4.out).only (Only.put2 (Only.refl (fun b => b = w.heap.size + 1) _) (.inl rfl) (.int .i64 0) (.int .i64 0)) (by omega)).alloc (.cells #[.string nm, .int .i64 vl, .slice a1 n1 k1, .slice a2 n2 k2, .int .i64 ak, .int .i64 xo, .int .i64 xt, .string xs, .int .i64 xn, .slice xa xm xc] 30)
      have hK2 := (put2 (a' := .int .i64 0) (b' := .int .i64 0) (HB4.out.only (Only.put10 (Only.refl (fun b => b = w.heap.size) _) (.inl rfl) (.string nm) (.int .i64 vl) (.slice a1 n1 k1) (.slice a2 n2 k2) (.int .i64 ak) (.int .i64 xo) (.int .i64 xt) (.string xs) (.int .i64 xn) (.slice xa xm xc)) (by omega))).alloc (.cells #[.string nm, .int .i64 vl, .slice a1 n1 k1, .slice a2 n2 k2, .int .i64 ak, .int .i64 xo, .int .i64 xt, .string xs, .int .i64 xn, .slice xa xm xc] 30)
      refine bodyPost_ret (results_three (p := 2) (q := 3) (r := 4) rfl _ _ _ _ _ _ _ _ _ (0, 0) (0, 0) _ _ rfl rfl rfl hK1 hK2 Tryz.underlying30 rfl (by kernel_rfl) Tryz.underlying37 rfl (by kernel_rfl)) rfl ?_
      have hO : Only (fun b => b = w.heap.size ∨ b = w.heap.size + 1) w4 ((((put10w w4 w.heap.size (.string nm) (.int .i64 vl) (.slice a1 n1 k1) (.slice a2 n2 k2) (.int .i64 ak) (.int .i64 xo) (.int .i64 xt) (.string xs) (.int .i64 xn) (.slice xa xm xc)).setCell ⟨w.heap.size + 1, 0, none⟩ (.int .i64 0)).setCell ⟨w.heap.size + 1, 1, none⟩ (.int .i64 0)).alloc (.cells #[.string nm, .int .i64 vl, .slice a1 n1 k1, .slice a2 n2 k2, .int .i64 ak, .int .i64 xo, .int .i64 xt, .string xs, .int .i64 xn, .slice xa xm xc] 30)).drew := ((Only.put2 (Only.put10 (Only.refl _ w4) (.inl (.inl rfl)) (.string nm) (.int .i64 vl) (.slice a1 n1 k1) (.slice a2 n2 k2) (.int .i64 ak) (.int .i64 xo) (.int .i64 xt) (.string xs) (.int .i64 xn) (.slice xa xm xc)) (.inl (.inr rfl)) (.int .i64 0) (.int .i64 0)).alloc (.cells #[.string nm, .int .i64 vl, .slice a1 n1 k1, .slice a2 n2 k2, .int .i64 ak, .int .i64 xo, .int .i64 xt, .string xs, .int .i64 xn, .slice xa xm xc] 30)).drew
      have hBW : Below w.heap.size w ((((put10w w4 w.heap.size (.string nm) (.int .i64 vl) (.slice a1 n1 k1) (.slice a2 n2 k2) (.int .i64 ak) (.int .i64 xo) (.int .i64 xt) (.string xs) (.int .i64 xn) (.slice xa xm xc)).setCell ⟨w.heap.size + 1, 0, none⟩ (.int .i64 0)).setCell ⟨w.heap.size + 1, 1, none⟩ (.int .i64 0)).alloc (.cells #[.string nm, .int .i64 vl, .slice a1 n1 k1, .slice a2 n2 k2, .int .i64 ak, .int .i64 xo, .int .i64 xt, .string xs, .int .i64 xn, .slice xa xm xc] 30)).drew := ((((Only.put2 (Only.put10 HON.out (.inr (Nat.le_refl _)) (.string nm) (.int .i64 vl) (.slice a1 n1 k1) (.slice a2 n2 k2) (.int .i64 ak) (.int .i64 xo) (.int .i64 xt) (.string xs) (.int .i64 xn) (.slice xa xm xc)) (.inr (Nat.le_succ _)) (.int .i64 0) (.int .i64 0)).alloc (.cells #[.string nm, .int .i64 vl, .slice a1 n1 k1, .slice a2 n2 k2, .int .i64 ak, .int .i64 xo, .int .i64 xt, .string xs, .int .i64 xn, .slice xa xm xc] 30)).drew).below (Nat.le_refl _) (fun _ _ h => h))
      rw [HPA.out, HPB.out]
      obtain ⟨hps, hlp⟩ := HSS.out
      refine ⟨_, _, rfl, LPg.step (fun b hb hl => ⟨by have := hb.1; unfold From; omega, hO.block b hl (by have := hb.1; omega)⟩) hlp, ?_, hBW⟩
      show OwnP _ w.heap.size _ qs
      rw [← hps]
      exact own_only (own_mono HOW.out (by omega)) hO (fun k hk => by have := (HOW.out.lt k hk).1; omega)
theorem read_any (s : ByteArray) (w : World) : Calls Tryz.prog 21 #[.string s] w (ReadTo (parA s) w) := by
  cases h : lexA s with
  | error x =>
    obtain ⟨x, p⟩ := x
    have := read_bad s w x p h
    unfold parA
    rw [h]
    exact this
  | ok ts => exact read_fit s w ts h
end Go.Proofs.YtgobcflfhabdhaaGreatDoor.Lx
/-
  Parse, Places: contracts.
-/
namespace Go.Proofs.YtgobcflfhabdhaaGreatDoor.Lx
open Go.RowKit
open L (Tok)
open P (EX CO ST PG)
set_option maxRecDepth 100000
set_option linter.unusedVariables false
set_option linter.unusedSimpArgs false
theorem pfl_two (o : Except (Nat × Nat) (PG × List Nat)) : ∃ a b : Int, pfl o = .agg #[.int .i64 a, .int .i64 b] := by
  rcases o with ⟨e, p⟩ | x
  · exact ⟨_, _, rfl⟩
  · exact ⟨_, _, rfl⟩
def ParseTo (o : Except (Nat × Nat) (PG × List Nat)) (w : World) (e : Ending) (w' : World) : Prop :=
  ∃ vp, e = .returned (.tuple #[vp, pfl o]) ∧ LPg (From w.heap.size) w' vp (ppg o) ∧ Below w.heap.size w w'
def PlacesTo (o : Except (Nat × Nat) (PG × List Nat)) (w : World) (e : Ending) (w' : World) : Prop :=
  ∃ vl, e = .returned (.tuple #[vl, pfl o]) ∧ OwnP w' w.heap.size vl (ppl o) ∧ Below w.heap.size w w'
set_option maxHeartbeats 3200000 in
theorem parse_any (s : ByteArray) (w : World) : Calls Tryz.prog 10 #[.string s] w (ParseTo (parA s) w) := by
  have HL := Lib.hid (fun w => read_any s w)
  generalize parA s = o at *
  obtain ⟨fa, fb, hpf⟩ := pfl_two o
  have HPF := Lib.hid hpf
  clear hpf
  go_enter Tryz.func10, Tryz.ntmps10
  go_wp2_with fail
  have hbA : Below w.heap.size w ((w.alloc (.cells #[.string ⟨#[]⟩, .int .i64 0, .slice none 0 0, .slice none 0 0, .int .i64 0, .int .i64 0, .int .i64 0, .string ⟨#[]⟩, .int .i64 0, .slice none 0 0] 30)).alloc (.cells #[.int .i64 0, .int .i64 0] 37)) := ((Below.refl _ _).alloc (Nat.le_refl _) _).alloc (by simp) _
  have HR0 := Lib.hid ((Blk.new w 30 #[.string ⟨#[]⟩, .int .i64 0, .slice none 0 0, .slice none 0 0, .int .i64 0, .int .i64 0, .int .i64 0, .string ⟨#[]⟩, .int .i64 0, .slice none 0 0]).alloc (.cells #[.int .i64 0, .int .i64 0] 37))
  have hB0 := Blk.new (w.alloc (.cells #[.string ⟨#[]⟩, .int .i64 0, .slice none 0 0, .slice none 0 0, .int .i64 0, .int .i64 0, .int .i64 0, .string ⟨#[]⟩, .int .i64 0, .slice none 0 0] 30)) 37 #[.int .i64 0, .int .i64 0]
  rw [show (w.alloc (.cells #[.string ⟨#[]⟩, .int .i64 0, .slice none 0 0, .slice none 0 0, .int .i64 0, .int .i64 0, .int .i64 0, .string ⟨#[]⟩, .int .i64 0, .slice none 0 0] 30)).heap.size = w.heap.size + 1 by simp] at hB0
  have HB0 := Lib.hid hB0
  clear hB0
  generalize (w.alloc (.cells #[.string ⟨#[]⟩, .int .i64 0, .slice none 0 0, .slice none 0 0, .int .i64 0, .int .i64 0, .int .i64 0, .string ⟨#[]⟩, .int .i64 0, .slice none 0 0] 30)).alloc (.cells #[.int .i64 0, .int .i64 0] 37) = w1 at *
  have hcall := HL.out w1
  with_reducible refine hcall.mono ?_
  rintro e w2 ⟨vp, vl, rfl, hlp, hown, hb⟩
  clear hcall
  obtain ⟨nm, vl', a1, n1, k1, a2, n2, k2, ak, xo, xt, xs, xn, xa, xm, xc, rfl⟩ := hlp.any
  obtain ⟨ap, cp, rfl⟩ := slice_of_own hown
  rw [HPF.out]
  have HLP := Lib.hid hlp
  have HR2 := Lib.hid (HR0.out.live' hb)
  have HB2 := Lib.hid (HB0.out.live' hb)
  have HBL := Lib.hid (hbA.trans (hb.mono hbA.size))
  have l0 := HB0.out.lt
  have l1 := HR2.out.lt
  have l2 := HB2.out.lt
  have l3 := hb.size
  clear hb hbA HR0 HB0 hlp hown
  obtain ⟨⟨c0, c1, c2, c3, c4, c5, c6, c7, c8, c9⟩, f0, f1, f2, f3, f4, f5, f6, f7, f8, f9⟩ := ten_free HR2.out
  obtain ⟨d0, d1, e0, e1⟩ := two_free HB2.out
  have y3 : ¬ w.heap.size = w2.heap.size := by omega
  have y4 : ¬ w.heap.size + 1 = w2.heap.size := by omega
  have y5 : ¬ w.heap.size = w2.heap.size + 1 := by omega
  have y6 : ¬ w.heap.size + 1 = w2.heap.size + 1 := by omega
  have z1 : w.heap.size < w2.heap.size + 1 := by omega
  have z2 : w.heap.size + 1 < w2.heap.size + 1 := by omega
  go_wp2_with fail
  go_region
  all_goals
    go_wp2_with fail
    have hK1 := (((put10 (a' := .string nm) (b' := .int .i64 vl') (c' := .slice a1 n1 k1) (d' := .slice a2 n2 k2) (e' := .int .i64 ak) (f' := .int .i64 xo) (h' := .int .i64 xt) (i' := .string xs) (j' := .int .i64 xn) (k' := .slice xa xm xc) HR2.out).only (Only.put2 (Only.refl (fun b => b = w.heap.size + 1) _) (.inl rfl) (.int .i64 fa) (.int .i64 fb)) (by omega)).alloc (.cells #[.string nm, .int .i64 vl', .slice a1 n1 k1, .slice a2 n2 k2, .int .i64 ak, .int .i64 xo, .int .i64 xt, .string xs, .int .i64 xn, .slice xa xm xc] 30)).alloc (.cells #[.int .i64 fa, .int .i64 fb] 37)
    have hK2 := ((put2 (a' := .int .i64 fa) (b' := .int .i64 fb) (HB2.out.only (Only.put10 (Only.refl (fun b => b = w.heap.size) _) (.inl rfl) (.string nm) (.int .i64 vl') (.slice a1 n1 k1) (.slice a2 n2 k2) (.int .i64 ak) (.int .i64 xo) (.int .i64 xt) (.string xs) (.int .i64 xn) (.slice xa xm xc)) (by omega))).alloc (.cells #[.string nm, .int .i64 vl', .slice a1 n1 k1, .slice a2 n2 k2, .int .i64 ak, .int .i64 xo, .int .i64 xt, .string xs, .int .i64 xn, .slice xa xm xc] 30)).alloc (.cells #[.int .i64 fa, .int .i64 fb] 37)
    refine bodyPost_ret (results_cells (p := 2) (r := 3) rfl _ _ _ _ _ _ _ _ (0, 0) (0, 0) _ _ rfl rfl hK1 hK2 Tryz.underlying30 rfl (by kernel_rfl) Tryz.underlying37 rfl (by kernel_rfl)) rfl ?_
    have hO : Only (fun b => b = w.heap.size ∨ b = w.heap.size + 1) w2 (((((put10w w2 w.heap.size (.string nm) (.int .i64 vl') (.slice a1 n1 k1) (.slice a2 n2 k2) (.int .i64 ak) (.int .i64 xo) (.int .i64 xt) (.string xs) (.int .i64 xn) (.slice xa xm xc)).setCell ⟨w.heap.size + 1, 0, none⟩ (.int .i64 fa)).setCell ⟨w.heap.size + 1, 1, none⟩ (.int .i64 fb)).alloc (.cells #[.string nm, .int .i64 vl', .slice a1 n1 k1, .slice a2 n2 k2, .int .i64 ak, .int .i64 xo, .int .i64 xt, .string xs, .int .i64 xn, .slice xa xm xc] 30)).alloc (.cells #[.int .i64 fa, .int .i64 fb] 37)).drew := (((Only.put2 (Only.put10 (Only.refl _ w2) (.inl (.inl rfl)) (.string nm) (.int .i64 vl') (.slice a1 n1 k1) (.slice a2 n2 k2) (.int .i64 ak) (.int .i64 xo) (.int .i64 xt) (.string xs) (.int .i64 xn) (.slice xa xm xc)) (.inl (.inr rfl)) (.int .i64 fa) (.int .i64 fb)).alloc (.cells #[.string nm, .int .i64 vl', .slice a1 n1 k1, .slice a2 n2 k2, .int .i64 ak, .int .i64 xo, .int .i64 xt, .string xs, .int .i64 xn, .slice xa xm xc] 30)).alloc (.cells #[.int .i64 fa, .int .i64 fb] 37)).drew
    have hBW := ((((Only.put2 (Only.put10 (Only.of_below (S := fun _ => False) HBL.out) (.inr (Nat.le_refl _)) (.string nm) (.int .i64 vl') (.slice a1 n1 k1) (.slice a2 n2 k2) (.int .i64 ak) (.int .i64 xo) (.int .i64 xt) (.string xs) (.int .i64 xn) (.slice xa xm xc)) (.inr (Nat.le_succ _)) (.int .i64 fa) (.int .i64 fb)).alloc (.cells #[.string nm, .int .i64 vl', .slice a1 n1 k1, .slice a2 n2 k2, .int .i64 ak, .int .i64 xo, .int .i64 xt, .string xs, .int .i64 xn, .slice xa xm xc] 30)).alloc (.cells #[.int .i64 fa, .int .i64 fb] 37)).drew).below (Nat.le_refl _) (fun _ _ h => h)
    refine ⟨_, by rw [HPF.out], LPg.step (fun b hb hl => ⟨by unfold From at hb ⊢; omega, hO.block b hl (by unfold From at hb; omega)⟩) HLP.out, hBW⟩
end Go.Proofs.YtgobcflfhabdhaaGreatDoor.Lx
