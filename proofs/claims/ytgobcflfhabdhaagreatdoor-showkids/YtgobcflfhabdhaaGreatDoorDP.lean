/-
  program of the developers' cursor: a contract.
-/
import Derived.Test.YtgobcflfhabdhaaGreatDoorDCell
namespace Go.Proofs.YtgobcflfhabdhaaGreatDoor.Lx
open Go.RowKit
open L (Tok)
open P (EX CO ST PG Gl nextR)
set_option maxRecDepth 100000
set_option linter.unusedVariables false
set_option linter.unusedSimpArgs false
/-! ### how a program is read, step by step -/
def s1 (TS : List Tok) : Sta := onNeed [108, 105, 116, 109, 117, 115] (.ok TS)
def rN (TS : List Tok) := on (s1 TS) P.pName
def s3 (TS : List Tok) : Sta := onNeed [118, 97, 108, 117, 101, 115] (left (rN TS))
def rV (TS : List Tok) := on (s3 TS) P.pNum
def rI (TS : List Tok) := on (left (rV TS)) (P.runF P.isInit P.cellF)
def rT (TS : List Tok) := on (left (rI TS)) (P.runF P.isThr P.threadF)
def rA (TS : List Tok) := on (left (rT TS)) P.askF
def rC (TS : List Tok) := on (left (rA TS)) P.pCond
def sE (TS : List Tok) : Sta := left (takeR (onE (left (rC TS))) (left (rC TS)))
def Steps (TS : List Tok) (p : PG) (qs : List Nat) : Prop := ∃ nm r1 v r2 cs ps r5 bl q2 r6 k r7 c r8, rN TS = .ok (nm, r1) ∧ rV TS = .ok (v, r2) ∧ rI TS = .ok ((cs, ps), r5) ∧ rT TS = .ok ((bl, q2), r6) ∧ rA TS = .ok (k, r7) ∧ rC TS = .ok (c, r8) ∧ p = ⟨nm, ((v : Nat) : Int), cs, bl, ((k : Nat) : Int), c⟩ ∧ qs = P.here TS :: (ps ++ (q2 ++ [P.here r6]))
/-- The last state is an error's just where the program is none; else the program's. -/
def Fits (TS : List Tok) : Prop := (∃ q, sE TS = .error q ∧ P.pProg TS = .error q) ∨ ∃ t p qs, sE TS = .ok t ∧ P.pProg TS = .ok (p, qs) ∧ Steps TS p qs
theorem fits (TS : List Tok) : Fits TS := by
  unfold Fits Steps
  simp only [P.initL_run, P.threadL_run, P.pProg, sE, rC, rA, rT, rI, rV, s3, rN, s1, onNeed]
  cases P.need [108, 105, 116, 109, 117, 115] TS with
  | error p => exact .inl ⟨p, rfl, rfl⟩
  | ok t1 =>
    simp only [on]
    cases P.pName t1 with
    | error p => exact .inl ⟨p, rfl, rfl⟩
    | ok x =>
      obtain ⟨nm, t2⟩ := x
      simp only [left]
      cases P.need [118, 97, 108, 117, 101, 115] t2 with
      | error p => exact .inl ⟨p, rfl, rfl⟩
      | ok t3 =>
        simp only
        cases P.pNum t3 with
        | error p => exact .inl ⟨p, rfl, rfl⟩
        | ok x =>
          obtain ⟨v, t4⟩ := x
          simp only [P.runF]
          cases P.runL P.isInit P.cellF t4.length t4 with
          | error p => exact .inl ⟨p, rfl, rfl⟩
          | ok x =>
            obtain ⟨⟨cs, ps⟩, t5⟩ := x
            simp only
            cases P.runL P.isThr P.threadF t5.length t5 with
            | error p => exact .inl ⟨p, rfl, rfl⟩
            | ok x =>
              obtain ⟨⟨bl, q2⟩, t6⟩ := x
              simp only
              cases P.askF t6 with
              | error p => exact .inl ⟨p, rfl, rfl⟩
              | ok x =>
                obtain ⟨k, t7⟩ := x
                simp only
                cases P.pCond t7 with
                | error p => exact .inl ⟨p, rfl, rfl⟩
                | ok x =>
                  obtain ⟨c, t8⟩ := x
                  simp only
                  cases t8 with
                  | nil => exact .inl ⟨0, rfl, rfl⟩
                  | cons t r =>
                    simp only [onE, nxt, takeR]
                    by_cases hk : (t.kind == 4) = true
                    · simp only [hk, if_true]
                      exact .inr ⟨r, _, _, rfl, rfl, _, _, _, _, _, _, _, _, _, _, _, _, _, _, rfl, rfl, rfl, rfl, rfl, rfl, rfl, rfl⟩
                    · have hk' : (t.kind == 4) = false := Bool.eq_false_iff.mpr hk
                      simp only [hk', Bool.false_eq_true, if_false]
                      exact .inl ⟨t.at', rfl, rfl⟩
/-- A program as a value. -/
def LPg (Q : Nat → Prop) (w : World) (v : Value) (p : PG) : Prop := ∃ vi vt o t s n a m c, v = .agg #[.string (bs p.name), .int .i64 p.vals, vi, vt, .int .i64 p.ask, .int .i64 o, .int .i64 t, .string s, .int .i64 n, .slice a m c] ∧ IsEs Q w vi p.init ∧ IsTs Q w vt p.threads ∧ LC Q w (.agg #[.int .i64 o, .int .i64 t, .string s, .int .i64 n, .slice a m c]) p.cond
def AnyPg (v : Value) : Prop := ∃ (nm : ByteArray) (vl : Int) (a1 : Option Addr) (n1 c1 : Nat) (a2 : Option Addr) (n2 c2 : Nat) (ak o t : Int) (s : ByteArray) (n : Int) (a : Option Addr) (m c : Nat), v = .agg #[.string nm, .int .i64 vl, .slice a1 n1 c1, .slice a2 n2 c2, .int .i64 ak, .int .i64 o, .int .i64 t, .string s, .int .i64 n, .slice a m c]
theorem LC.step {Q Q' : Nat → Prop} {w w' : World} (h : Same Q Q' w w') {v : Value} {e : CO} (hv : LC Q w v e) : LC Q' w' v e := by
  have h1 := LC.mono (Q' := fun b => Q' b ∧ w'.heap[b]? = w.heap[b]?) (fun b hb hl => h b hb hl) e hv
  have h2 := LC.keep (w' := w') (fun b hb hl => hb.2) e h1
  exact LC.mono (fun b hb _ => hb.1) e h2
theorem LPg.step {Q Q' : Nat → Prop} {w w' : World} (h : Same Q Q' w w') {v : Value} {p : PG} (hv : LPg Q w v p) : LPg Q' w' v p := by
  obtain ⟨vi, vt, o, t, s, n, a, m, c, rfl, h1, h2, h3⟩ := hv
  exact ⟨vi, vt, o, t, s, n, a, m, c, rfl, IsEs.step h h1, IsTs.step h h2, LC.step h h3⟩
/-- What program tells: a program's form, the cursor's fault, the places; and, if the tokens make a program, that one and its places. -/
def ProgD (C base : Nat) (TS : List Tok) (pv : Value) (w : World) (e : Ending) (w' : World) : Prop :=
  ∃ v pv' ps', e = .returned v ∧ AnyPg v ∧ (∃ a n c, Blk w' C 93 #[.slice a n c, pv', .int .i64 (ferr (sE TS)), .int .i64 (fat (sE TS))]) ∧ OwnP w' base pv' ps' ∧ Only (Pb C pv) w w' ∧ Fr pv pv' w.heap.size ∧ ∀ p qs, Steps TS p qs → ps' = qs ∧ LPg (Nw w.heap.size pv') w' v p
theorem ten_free {w : World} {g : Nat} {t : TypeId} {a b c d e f h i j k : Value} (hh : Blk w g t #[a, b, c, d, e, f, h, i, j, k]) : (w.cell? ⟨g, 0, none⟩ = some a ∧ w.cell? ⟨g, 1, none⟩ = some b ∧ w.cell? ⟨g, 2, none⟩ = some c ∧ w.cell? ⟨g, 3, none⟩ = some d ∧ w.cell? ⟨g, 4, none⟩ = some e ∧ w.cell? ⟨g, 5, none⟩ = some f ∧ w.cell? ⟨g, 6, none⟩ = some h ∧ w.cell? ⟨g, 7, none⟩ = some i ∧ w.cell? ⟨g, 8, none⟩ = some j ∧ w.cell? ⟨g, 9, none⟩ = some k) ∧ w.frozen? ⟨g, 0, none⟩ = false ∧ w.frozen? ⟨g, 1, none⟩ = false ∧ w.frozen? ⟨g, 2, none⟩ = false ∧ w.frozen? ⟨g, 3, none⟩ = false ∧ w.frozen? ⟨g, 4, none⟩ = false ∧ w.frozen? ⟨g, 5, none⟩ = false ∧ w.frozen? ⟨g, 6, none⟩ = false ∧ w.frozen? ⟨g, 7, none⟩ = false ∧ w.frozen? ⟨g, 8, none⟩ = false ∧ w.frozen? ⟨g, 9, none⟩ = false :=
  ⟨⟨hh.cell 0, hh.cell 1, hh.cell 2, hh.cell 3, hh.cell 4, hh.cell 5, hh.cell 6, hh.cell 7, hh.cell 8, hh.cell 9⟩, hh.free 0, hh.free 1, hh.free 2, hh.free 3, hh.free 4, hh.free 5, hh.free 6, hh.free 7, hh.free 8, hh.free 9⟩
def put10w (w : World) (R : Nat) (a b c d e f h i j k : Value) : World := (((put7w w R a b c d e f h).setCell ⟨R, 7, none⟩ i).setCell ⟨R, 8, none⟩ j).setCell ⟨R, 9, none⟩ k
theorem ten0 {w : World} {R : Nat} {t : TypeId} {a b c d e f h i j k : Value} (hh : Blk w R t #[a, b, c, d, e, f, h, i, j, k]) (u : Value) : Blk (w.setCell ⟨R, 0, none⟩ u) R t #[u, b, c, d, e, f, h, i, j, k] := hh.set 0 u
theorem ten1 {w : World} {R : Nat} {t : TypeId} {a b c d e f h i j k : Value} (hh : Blk w R t #[a, b, c, d, e, f, h, i, j, k]) (u : Value) : Blk (w.setCell ⟨R, 1, none⟩ u) R t #[a, u, c, d, e, f, h, i, j, k] := hh.set 1 u
theorem ten2 {w : World} {R : Nat} {t : TypeId} {a b c d e f h i j k : Value} (hh : Blk w R t #[a, b, c, d, e, f, h, i, j, k]) (u : Value) : Blk (w.setCell ⟨R, 2, none⟩ u) R t #[a, b, u, d, e, f, h, i, j, k] := hh.set 2 u
theorem ten3 {w : World} {R : Nat} {t : TypeId} {a b c d e f h i j k : Value} (hh : Blk w R t #[a, b, c, d, e, f, h, i, j, k]) (u : Value) : Blk (w.setCell ⟨R, 3, none⟩ u) R t #[a, b, c, u, e, f, h, i, j, k] := hh.set 3 u
theorem ten4 {w : World} {R : Nat} {t : TypeId} {a b c d e f h i j k : Value} (hh : Blk w R t #[a, b, c, d, e, f, h, i, j, k]) (u : Value) : Blk (w.setCell ⟨R, 4, none⟩ u) R t #[a, b, c, d, u, f, h, i, j, k] := hh.set 4 u
theorem ten5 {w : World} {R : Nat} {t : TypeId} {a b c d e f h i j k : Value} (hh : Blk w R t #[a, b, c, d, e, f, h, i, j, k]) (u : Value) : Blk (w.setCell ⟨R, 5, none⟩ u) R t #[a, b, c, d, e, u, h, i, j, k] := hh.set 5 u
theorem ten6 {w : World} {R : Nat} {t : TypeId} {a b c d e f h i j k : Value} (hh : Blk w R t #[a, b, c, d, e, f, h, i, j, k]) (u : Value) : Blk (w.setCell ⟨R, 6, none⟩ u) R t #[a, b, c, d, e, f, u, i, j, k] := hh.set 6 u
theorem ten7 {w : World} {R : Nat} {t : TypeId} {a b c d e f h i j k : Value} (hh : Blk w R t #[a, b, c, d, e, f, h, i, j, k]) (u : Value) : Blk (w.setCell ⟨R, 7, none⟩ u) R t #[a, b, c, d, e, f, h, u, j, k] := hh.set 7 u
theorem ten8 {w : World} {R : Nat} {t : TypeId} {a b c d e f h i j k : Value} (hh : Blk w R t #[a, b, c, d, e, f, h, i, j, k]) (u : Value) : Blk (w.setCell ⟨R, 8, none⟩ u) R t #[a, b, c, d, e, f, h, i, u, k] := hh.set 8 u
theorem ten9 {w : World} {R : Nat} {t : TypeId} {a b c d e f h i j k : Value} (hh : Blk w R t #[a, b, c, d, e, f, h, i, j, k]) (u : Value) : Blk (w.setCell ⟨R, 9, none⟩ u) R t #[a, b, c, d, e, f, h, i, j, u] := hh.set 9 u
theorem put10 {w : World} {R : Nat} {t : TypeId} {a b c d e f h i j k a' b' c' d' e' f' h' i' j' k' : Value} (hh : Blk w R t #[a, b, c, d, e, f, h, i, j, k]) : Blk (put10w w R a' b' c' d' e' f' h' i' j' k') R t #[a', b', c', d', e', f', h', i', j', k'] :=
  ten9 (ten8 (ten7 (ten6 (ten5 (ten4 (ten3 (ten2 (ten1 (ten0 hh a') b') c') d') e') f') h') i') j') k'
theorem Only.put10 {S : Nat → Prop} {a b : World} (h : Only S a b) {R : Nat} (hR : S R ∨ a.heap.size ≤ R) (u0 u1 u2 u3 u4 u5 u6 u7 u8 u9 : Value) : Only S a (put10w b R u0 u1 u2 u3 u4 u5 u6 u7 u8 u9) :=
  (((Only.put7 h hR u0 u1 u2 u3 u4 u5 u6).setCell (p := ⟨R, 7, none⟩) hR _).setCell (p := ⟨R, 8, none⟩) hR _).setCell (p := ⟨R, 9, none⟩) hR _
end Go.Proofs.YtgobcflfhabdhaaGreatDoor.Lx
/-
  program of the developers' cursor: a contract.
-/
namespace Go.Proofs.YtgobcflfhabdhaaGreatDoor.Lx
open Go.RowKit
open L (Tok)
open P (EX CO ST PG Gl nextR)
set_option maxRecDepth 100000
set_option linter.unusedVariables false
set_option linter.unusedSimpArgs false
set_option maxHeartbeats 6400000 in
theorem program_d (C g base : Nat) (TS : List Tok) (pv : Value) (w : World) (h : Dc w C g TS pv (.ok TS)) (hp : OwnP w base pv []) (hg : g < base) (hbase : base ≤ w.heap.size) :
    Calls Tryz.prog 35 #[.pointer (some ⟨C, 0, none⟩)] w (ProgD C base TS pv w) := by
  obtain ⟨hCl, hgl⟩ := h.lts
  have H0 := Lib.hid (Cp.start h hp)
  have HNA := Lib.hid (nxt_at (ts := TS))
  clear h hp
  go_enter Tryz.func35, Tryz.ntmps35
  go_wp2_with fail
  have hbA : Below w.heap.size w ((w.alloc (.cells #[.string ⟨#[]⟩, .int .i64 0, .slice none 0 0, .slice none 0 0, .int .i64 0, .int .i64 0, .int .i64 0, .string ⟨#[]⟩, .int .i64 0, .slice none 0 0] 30)).alloc (.cells #[.string ⟨#[]⟩, .int .i64 0, .slice none 0 0, .slice none 0 0, .int .i64 0, .int .i64 0, .int .i64 0, .string ⟨#[]⟩, .int .i64 0, .slice none 0 0] 30)) := ((Below.refl _ _).alloc (Nat.le_refl _) _).alloc (by simp) _
  have HR1 := Lib.hid ((Blk.new w 30 #[.string ⟨#[]⟩, .int .i64 0, .slice none 0 0, .slice none 0 0, .int .i64 0, .int .i64 0, .int .i64 0, .string ⟨#[]⟩, .int .i64 0, .slice none 0 0]).alloc (.cells #[.string ⟨#[]⟩, .int .i64 0, .slice none 0 0, .slice none 0 0, .int .i64 0, .int .i64 0, .int .i64 0, .string ⟨#[]⟩, .int .i64 0, .slice none 0 0] 30))
  have hB0 := Blk.new (w.alloc (.cells #[.string ⟨#[]⟩, .int .i64 0, .slice none 0 0, .slice none 0 0, .int .i64 0, .int .i64 0, .int .i64 0, .string ⟨#[]⟩, .int .i64 0, .slice none 0 0] 30)) 30 #[.string ⟨#[]⟩, .int .i64 0, .slice none 0 0, .slice none 0 0, .int .i64 0, .int .i64 0, .int .i64 0, .string ⟨#[]⟩, .int .i64 0, .slice none 0 0]
  rw [show (w.alloc (.cells #[.string ⟨#[]⟩, .int .i64 0, .slice none 0 0, .slice none 0 0, .int .i64 0, .int .i64 0, .int .i64 0, .string ⟨#[]⟩, .int .i64 0, .slice none 0 0] 30)).heap.size = w.heap.size + 1 by simp] at hB0
  have HB1 := Lib.hid hB0
  have H1 := Lib.hid (H0.out.call (Only.of_below hbA) (H0.out.dc.below hbA))
  have hs1 : w.heap.size + 1 < ((w.alloc (.cells #[.string ⟨#[]⟩, .int .i64 0, .slice none 0 0, .slice none 0 0, .int .i64 0, .int .i64 0, .int .i64 0, .string ⟨#[]⟩, .int .i64 0, .slice none 0 0] 30)).alloc (.cells #[.string ⟨#[]⟩, .int .i64 0, .slice none 0 0, .slice none 0 0, .int .i64 0, .int .i64 0, .int .i64 0, .string ⟨#[]⟩, .int .i64 0, .slice none 0 0] 30)).heap.size := HB1.out.lt
  clear hbA hB0 H0
  generalize (w.alloc (.cells #[.string ⟨#[]⟩, .int .i64 0, .slice none 0 0, .slice none 0 0, .int .i64 0, .int .i64 0, .int .i64 0, .string ⟨#[]⟩, .int .i64 0, .slice none 0 0] 30)).alloc (.cells #[.string ⟨#[]⟩, .int .i64 0, .slice none 0 0, .slice none 0 0, .int .i64 0, .int .i64 0, .int .i64 0, .string ⟨#[]⟩, .int .i64 0, .slice none 0 0] 30) = w1 at *
  generalize hBe : w.heap.size + 1 = B at *
  generalize hSe : w.heap.size = R at *
  have hRw : w.heap.size ≤ R := by omega
  have hRw' : R ≤ w.heap.size := by omega
  have hRB : R < B := by omega
  clear hSe hBe
  with_reducible refine (part_d C g base TS pv [] (.ok TS) _ H1.out.dc H1.out.own hg (by omega) (by simp)).mono ?_
  rintro e w2 ⟨pv2, rfl, hd, hp, ho, hf⟩
  rw [HNA.out] at hp
  have HR2 := Lib.hid (HR1.out.only ho (H1.out.far HR1.out (by decide) (by decide)))
  have HB2 := Lib.hid (HB1.out.only ho (H1.out.far HB1.out (by decide) (by decide)))
  have H2 := Lib.hid (H1.out.on (st2 := .ok TS) hd hp ho hf)
  have hs2 := ho.size
  clear hd hp ho hf HR1 HB1 H1
  go_wp2_with fail
  with_reducible refine (want_d C g TS pv2 (.ok TS) ⟨#[108, 105, 116, 109, 117, 115]⟩ _ H2.out.dc (by decide)).mono ?_
  rintro e w3 ⟨rfl, hd, ho⟩
  have HR3 := Lib.hid (HR2.out.only ho (fun e => H2.out.far HR2.out (by decide) (by decide) (.inl e)))
  have HB3 := Lib.hid (HB2.out.only ho (fun e => H2.out.far HB2.out (by decide) (by decide) (.inl e)))
  have H3 := Lib.hid (H2.out.call (st2 := s1 TS) ho hd)
  have hs3 := ho.size
  clear hd ho HR2 HB2 H2
  go_wp2_with fail
  with_reducible refine (name_d C g TS pv2 (s1 TS) _ H3.out.dc).mono ?_
  rintro e w4 ⟨t, rfl, hd, ho, ht⟩
  have HR4 := Lib.hid (HR3.out.only ho (fun e => H3.out.far HR3.out (by decide) (by decide) (.inl e)))
  have HB4 := Lib.hid (HB3.out.only ho (fun e => H3.out.far HB3.out (by decide) (by decide) (.inl e)))
  have H4 := Lib.hid (H3.out.call (st2 := left (rN TS)) ho hd)
  have hs4 := ho.size
  have HTn := Lib.hid ht
  clear ht
  clear hd ho HR3 HB3 H3
  obtain ⟨tk, tx, tn, ta⟩ := t
  rw [tokV]
  have q1 := fun w => tf1 (.int .i64 tk) (.string (bs tx)) (.int .i64 tn) (.int .i64 ta) w
  generalize hX : bs tx = X at *
  have HX := Lib.hid hX
  clear hX
  obtain ⟨⟨c0, c1, c2, c3, c4, c5, c6, c7, c8, c9⟩, f0, f1, f2, f3, f4, f5, f6, f7, f8, f9⟩ := ten_free HB4.out
  go_wp2_with fail
  clear c0 c1 c2 c3 c4 c5 c6 c7 c8 c9 f0 f1 f2 f3 f4 f5 f6 f7 f8 f9
  have HR5 := Lib.hid (HR4.out.only (only_set w4 B 0 (.string X)) (by omega))
  have H5 := Lib.hid (H4.out.put (t := 30) (by decide) (by decide) (by omega) (by omega) HB4.out 0 (.string X))
  have HB5 := Lib.hid (ten0 HB4.out (.string X))
  have hs5 := (only_set w4 B 0 (.string X)).size
  clear HR4 HB4 H4
  generalize w4.setCell ⟨B, 0, none⟩ (.string X) = w5 at *
  clear q1
  with_reducible refine (want_d C g TS pv2 (left (rN TS)) ⟨#[118, 97, 108, 117, 101, 115]⟩ _ H5.out.dc (by decide)).mono ?_
  rintro e w6 ⟨rfl, hd, ho⟩
  have HR6 := Lib.hid (HR5.out.only ho (fun e => H5.out.far HR5.out (by decide) (by decide) (.inl e)))
  have HB6 := Lib.hid (HB5.out.only ho (fun e => H5.out.far HB5.out (by decide) (by decide) (.inl e)))
  have H6 := Lib.hid (H5.out.call (st2 := s3 TS) ho hd)
  have hs6 := ho.size
  clear hd ho HR5 HB5 H5
  go_wp2_with fail
  with_reducible refine (number_d C g TS pv2 (s3 TS) _ H6.out.dc).mono ?_
  rintro e w7 ⟨t, rfl, hd, ho, ht⟩
  have HR7 := Lib.hid (HR6.out.only ho (fun e => H6.out.far HR6.out (by decide) (by decide) (.inl e)))
  have HB7 := Lib.hid (HB6.out.only ho (fun e => H6.out.far HB6.out (by decide) (by decide) (.inl e)))
  have H7 := Lib.hid (H6.out.call (st2 := left (rV TS)) ho hd)
  have hs7 := ho.size
  have HTv := Lib.hid ht
  clear ht
  clear hd ho HR6 HB6 H6
  obtain ⟨uk, ux, un, ua⟩ := t
  rw [tokV]
  have q2 := fun w => tf2 (.int .i64 uk) (.string (bs ux)) (.int .i64 un) (.int .i64 ua) w
  generalize bs ux = Y at *
  obtain ⟨⟨c0, c1, c2, c3, c4, c5, c6, c7, c8, c9⟩, f0, f1, f2, f3, f4, f5, f6, f7, f8, f9⟩ := ten_free HB7.out
  go_wp2_with fail
  clear c0 c1 c2 c3 c4 c5 c6 c7 c8 c9 f0 f1 f2 f3 f4 f5 f6 f7 f8 f9
  have HR8 := Lib.hid (HR7.out.only (only_set w7 B 1 (.int .i64 un)) (by omega))
  have H8 := Lib.hid (H7.out.put (t := 30) (by decide) (by decide) (by omega) (by omega) HB7.out 1 (.int .i64 un))
  have HB8 := Lib.hid (ten1 HB7.out (.int .i64 un))
  have hs8 := (only_set w7 B 1 (.int .i64 un)).size
  clear HR7 HB7 H7
  generalize w7.setCell ⟨B, 1, none⟩ (.int .i64 un) = w8 at *
  clear q2
  have hslE := H8.out.dc.slen
  have HME := Lib.hid (manyE_d C g base TS pv2 ([] ++ [P.here TS]) (left (rV TS)) w8 (P.runF P.isInit P.cellF) P.cellF H8.out.dc H8.out.own hg (by omega) (by first | omega | (simp; omega)) (fun st pv w h => atInit_d C g TS pv st w h) (fun ts pv ps w h1 h2 h3 h4 h5 h6 => cell_d C g base TS pv ps ts w h1 h3 hg h4 h5) P.cellF_less (fun ts pv w h1 h2 => P.runF_more rfl P.cellF_less h2))
  unfold mval at HME
  with_reducible refine (HME.out).mono ?_
  rintro e w9 ⟨v, pv3, ps3, r, rfl, ⟨ax, nx, kx, rfl⟩, hd, hmay, hsum, hp, hbE, ho, hf, hv⟩
  have er : rI TS = r := hsum.trans (P.Gl_stop fun a ts e => by subst e; exact hmay)
  subst er
  have HR9 := Lib.hid (HR8.out.only ho (H8.out.far HR8.out (by decide) (by decide)))
  have HB9 := Lib.hid (HB8.out.only ho (H8.out.far HB8.out (by decide) (by decide)))
  have H9 := Lib.hid (H8.out.on (st2 := left (rI TS)) hd hp ho hf)
  have hs9 := ho.size
  have HPE := Lib.hid (fun es qs ts (hh : rI TS = .ok ((es, qs), ts)) => (hv es qs ts hh).1)
  have HI9 := Lib.hid (fun es qs ts (hh : rI TS = .ok ((es, qs), ts)) => (show IsEs (NwB R pv3 B R) w9 (.slice ax nx kx) es from IsEs.step (fun b hb hl => ⟨⟨by have := hb.1; omega, hb.2, by have := hb.1; omega, by have := hb.1; omega⟩, rfl⟩) (hv es qs ts hh).2))
  clear hv hsum hmay HME
  clear hd hp ho hf HR8 HB8 H8
  have hbE2 : ps3.length + slen (left (rI TS)) ≤ 1 + slen (left (rV TS)) := by simpa using hbE
  obtain ⟨⟨c0, c1, c2, c3, c4, c5, c6, c7, c8, c9⟩, f0, f1, f2, f3, f4, f5, f6, f7, f8, f9⟩ := ten_free HB9.out
  go_wp2_with fail
  clear c0 c1 c2 c3 c4 c5 c6 c7 c8 c9 f0 f1 f2 f3 f4 f5 f6 f7 f8 f9
  have HR10 := Lib.hid (HR9.out.only (only_set w9 B 2 (.slice ax nx kx)) (by omega))
  have H10 := Lib.hid (H9.out.put (t := 30) (by decide) (by decide) (by omega) (by omega) HB9.out 2 (.slice ax nx kx))
  have HB10 := Lib.hid (ten2 HB9.out (.slice ax nx kx))
  have hs10 := (only_set w9 B 2 (.slice ax nx kx)).size
  have HI10 := Lib.hid (fun es qs ts hh => IsEs.step (same_set (i := 2) (.slice ax nx kx)) (HI9.out es qs ts hh))
  clear HI9
  clear HR9 HB9 H9
  generalize w9.setCell ⟨B, 2, none⟩ (.slice ax nx kx) = w10 at *
  have hslT := H10.out.dc.slen
  have HMT := Lib.hid (manyT_d C g base TS pv3 (ps3) (left (rI TS)) w10 (P.runF P.isThr P.threadF) P.threadF H10.out.dc H10.out.own hg (by omega) (by first | omega | (simp; omega)) (fun st pv w h => atThread_d C g TS pv st w h) (fun ts pv ps w h1 h2 h3 h4 h5 h6 => thread_d C g base TS pv ps ts w h1 h3 hg h4 h5) P.threadF_less (fun ts pv w h1 h2 => P.runF_more rfl P.threadF_less h2))
  unfold mval at HMT
  with_reducible refine (HMT.out).mono ?_
  rintro e w11 ⟨v, pv4, ps4, r, rfl, ⟨ay, ny, ky, rfl⟩, hd, hmay, hsum, hp, hbT, ho, hf, hv⟩
  have er : rT TS = r := hsum.trans (P.Gl_stop fun a ts e => by subst e; exact hmay)
  subst er
  have HR11 := Lib.hid (HR10.out.only ho (H10.out.far HR10.out (by decide) (by decide)))
  have HB11 := Lib.hid (HB10.out.only ho (H10.out.far HB10.out (by decide) (by decide)))
  have H11 := Lib.hid (H10.out.on (st2 := left (rT TS)) hd hp ho hf)
  have hs11 := ho.size
  have HI11 := Lib.hid (fun es qs ts hh => IsEs.step (same_call hCl ho hf) (HI10.out es qs ts hh))
  clear HI10
  have HPT := Lib.hid (fun es qs ts (hh : rT TS = .ok ((es, qs), ts)) => (hv es qs ts hh).1)
  have HJ11 := Lib.hid (fun es qs ts (hh : rT TS = .ok ((es, qs), ts)) => (show IsTs (NwB R pv4 B R) w11 (.slice ay ny ky) es from IsTs.step (fun b hb hl => ⟨⟨by have := hb.1; omega, hb.2, by have := hb.1; omega, by have := hb.1; omega⟩, rfl⟩) (hv es qs ts hh).2))
  clear hv hsum hmay HMT
  clear hd hp ho hf HR10 HB10 H10
  obtain ⟨⟨c0, c1, c2, c3, c4, c5, c6, c7, c8, c9⟩, f0, f1, f2, f3, f4, f5, f6, f7, f8, f9⟩ := ten_free HB11.out
  go_wp2_with fail
  clear c0 c1 c2 c3 c4 c5 c6 c7 c8 c9 f0 f1 f2 f3 f4 f5 f6 f7 f8 f9
  have HR12 := Lib.hid (HR11.out.only (only_set w11 B 3 (.slice ay ny ky)) (by omega))
  have H12 := Lib.hid (H11.out.put (t := 30) (by decide) (by decide) (by omega) (by omega) HB11.out 3 (.slice ay ny ky))
  have HB12 := Lib.hid (ten3 HB11.out (.slice ay ny ky))
  have hs12 := (only_set w11 B 3 (.slice ay ny ky)).size
  have HI12 := Lib.hid (fun es qs ts hh => IsEs.step (same_set (i := 3) (.slice ay ny ky)) (HI11.out es qs ts hh))
  have HJ12 := Lib.hid (fun es qs ts hh => IsTs.step (same_set (i := 3) (.slice ay ny ky)) (HJ11.out es qs ts hh))
  clear HI11 HJ11
  clear HR11 HB11 H11
  generalize w11.setCell ⟨B, 3, none⟩ (.slice ay ny ky) = w12 at *
  with_reducible refine (part_d C g base TS pv4 ps4 (left (rT TS)) _ H12.out.dc H12.out.own hg (by omega) (by omega)).mono ?_
  rintro e w13 ⟨pv5, rfl, hd, hp, ho, hf⟩
  have HR13 := Lib.hid (HR12.out.only ho (H12.out.far HR12.out (by decide) (by decide)))
  have HB13 := Lib.hid (HB12.out.only ho (H12.out.far HB12.out (by decide) (by decide)))
  have H13 := Lib.hid (H12.out.on (st2 := left (rT TS)) hd hp ho hf)
  have hs13 := ho.size
  have HI13 := Lib.hid (fun es qs ts hh => IsEs.step (same_call hCl ho hf) (HI12.out es qs ts hh))
  have HJ13 := Lib.hid (fun es qs ts hh => IsTs.step (same_call hCl ho hf) (HJ12.out es qs ts hh))
  clear HI12 HJ12
  clear hd hp ho hf HR12 HB12 H12
  go_wp2_with fail
  with_reducible refine (ask_d C g TS pv5 (left (rT TS)) _ H13.out.dc).mono ?_
  rintro e w14 ⟨v, rfl, ⟨ak, rfl⟩, hd, ho, hv⟩
  have HR14 := Lib.hid (HR13.out.only ho (fun e => H13.out.far HR13.out (by decide) (by decide) (.inl e)))
  have HB14 := Lib.hid (HB13.out.only ho (fun e => H13.out.far HB13.out (by decide) (by decide) (.inl e)))
  have H14 := Lib.hid (H13.out.call (st2 := left (rA TS)) ho hd)
  have hs14 := ho.size
  have HI14 := Lib.hid (fun es qs ts hh => IsEs.step (same_callC hCl ho) (HI13.out es qs ts hh))
  have HJ14 := Lib.hid (fun es qs ts hh => IsTs.step (same_callC hCl ho) (HJ13.out es qs ts hh))
  clear HI13 HJ13
  have HAK := Lib.hid hv
  clear hv
  clear hd ho HR13 HB13 H13
  obtain ⟨⟨c0, c1, c2, c3, c4, c5, c6, c7, c8, c9⟩, f0, f1, f2, f3, f4, f5, f6, f7, f8, f9⟩ := ten_free HB14.out
  go_wp2_with fail
  clear c0 c1 c2 c3 c4 c5 c6 c7 c8 c9 f0 f1 f2 f3 f4 f5 f6 f7 f8 f9
  have HR15 := Lib.hid (HR14.out.only (only_set w14 B 4 (.int .i64 ak)) (by omega))
  have H15 := Lib.hid (H14.out.put (t := 30) (by decide) (by decide) (by omega) (by omega) HB14.out 4 (.int .i64 ak))
  have HB15 := Lib.hid (ten4 HB14.out (.int .i64 ak))
  have hs15 := (only_set w14 B 4 (.int .i64 ak)).size
  have HI15 := Lib.hid (fun es qs ts hh => IsEs.step (same_set (i := 4) (.int .i64 ak)) (HI14.out es qs ts hh))
  have HJ15 := Lib.hid (fun es qs ts hh => IsTs.step (same_set (i := 4) (.int .i64 ak)) (HJ14.out es qs ts hh))
  clear HI14 HJ14
  clear HR14 HB14 H14
  generalize w14.setCell ⟨B, 4, none⟩ (.int .i64 ak) = w15 at *
  with_reducible refine (condTot_d C g TS pv5 (left (rA TS)) _ H15.out.dc).mono ?_
  rintro e w16 ⟨v, rfl, ⟨xo, xt, xs, xn, xa, xm, xc, rfl⟩, hd, ho, hv⟩
  have HR16 := Lib.hid (HR15.out.only ho (fun e => H15.out.far HR15.out (by decide) (by decide) (.inl e)))
  have HB16 := Lib.hid (HB15.out.only ho (fun e => H15.out.far HB15.out (by decide) (by decide) (.inl e)))
  have H16 := Lib.hid (H15.out.call (st2 := left (rC TS)) ho hd)
  have hs16 := ho.size
  have HI16 := Lib.hid (fun es qs ts hh => IsEs.step (same_callC hCl ho) (HI15.out es qs ts hh))
  have HJ16 := Lib.hid (fun es qs ts hh => IsTs.step (same_callC hCl ho) (HJ15.out es qs ts hh))
  clear HI15 HJ15
  have hpb : ∀ b, pv5.ownBlock = some b → b < w15.heap.size := fun b hb => (H15.out.own.lt b hb).2
  have HC16 := Lib.hid (fun c ts (hh : rC TS = .ok (c, ts)) => (show LC (NwB R pv5 B R) w16 (.agg #[.int .i64 xo, .int .i64 xt, .string xs, .int .i64 xn, .slice xa xm xc]) c from LC.mono (fun b hb _ => ⟨by unfold From at hb; omega, fun e => by have := hpb b e; unfold From at hb; omega, by unfold From at hb; omega, by unfold From at hb; omega⟩) _ (hv c ts hh)))
  clear hv hpb
  clear hd ho HR15 HB15 H15
  obtain ⟨⟨c0, c1, c2, c3, c4, c5, c6, c7, c8, c9⟩, f0, f1, f2, f3, f4, f5, f6, f7, f8, f9⟩ := ten_free HB16.out
  go_wp2_with fail
  clear c0 c1 c2 c3 c4 c5 c6 c7 c8 c9 f0 f1 f2 f3 f4 f5 f6 f7 f8 f9
  have HR17 := Lib.hid (HR16.out.only (only_set w16 B 5 (.int .i64 xo)) (by omega))
  have H17 := Lib.hid (H16.out.put (t := 30) (by decide) (by decide) (by omega) (by omega) HB16.out 5 (.int .i64 xo))
  have HB17 := Lib.hid (ten5 HB16.out (.int .i64 xo))
  have hs17 := (only_set w16 B 5 (.int .i64 xo)).size
  have HI17 := Lib.hid (fun es qs ts hh => IsEs.step (same_set (i := 5) (.int .i64 xo)) (HI16.out es qs ts hh))
  have HJ17 := Lib.hid (fun es qs ts hh => IsTs.step (same_set (i := 5) (.int .i64 xo)) (HJ16.out es qs ts hh))
  have HC17 := Lib.hid (fun c ts hh => LC.step (same_set (i := 5) (.int .i64 xo)) (HC16.out c ts hh))
  clear HI16 HJ16 HC16
  clear HR16 HB16 H16
  generalize w16.setCell ⟨B, 5, none⟩ (.int .i64 xo) = w17 at *
  have HR18 := Lib.hid (HR17.out.only (only_set w17 B 6 (.int .i64 xt)) (by omega))
  have H18 := Lib.hid (H17.out.put (t := 30) (by decide) (by decide) (by omega) (by omega) HB17.out 6 (.int .i64 xt))
  have HB18 := Lib.hid (ten6 HB17.out (.int .i64 xt))
  have hs18 := (only_set w17 B 6 (.int .i64 xt)).size
  have HI18 := Lib.hid (fun es qs ts hh => IsEs.step (same_set (i := 6) (.int .i64 xt)) (HI17.out es qs ts hh))
  have HJ18 := Lib.hid (fun es qs ts hh => IsTs.step (same_set (i := 6) (.int .i64 xt)) (HJ17.out es qs ts hh))
  have HC18 := Lib.hid (fun c ts hh => LC.step (same_set (i := 6) (.int .i64 xt)) (HC17.out c ts hh))
  clear HI17 HJ17 HC17
  clear HR17 HB17 H17
  generalize w17.setCell ⟨B, 6, none⟩ (.int .i64 xt) = w18 at *
  have HR19 := Lib.hid (HR18.out.only (only_set w18 B 7 (.string xs)) (by omega))
  have H19 := Lib.hid (H18.out.put (t := 30) (by decide) (by decide) (by omega) (by omega) HB18.out 7 (.string xs))
  have HB19 := Lib.hid (ten7 HB18.out (.string xs))
  have hs19 := (only_set w18 B 7 (.string xs)).size
  have HI19 := Lib.hid (fun es qs ts hh => IsEs.step (same_set (i := 7) (.string xs)) (HI18.out es qs ts hh))
  have HJ19 := Lib.hid (fun es qs ts hh => IsTs.step (same_set (i := 7) (.string xs)) (HJ18.out es qs ts hh))
  have HC19 := Lib.hid (fun c ts hh => LC.step (same_set (i := 7) (.string xs)) (HC18.out c ts hh))
  clear HI18 HJ18 HC18
  clear HR18 HB18 H18
  generalize w18.setCell ⟨B, 7, none⟩ (.string xs) = w19 at *
  have HR20 := Lib.hid (HR19.out.only (only_set w19 B 8 (.int .i64 xn)) (by omega))
  have H20 := Lib.hid (H19.out.put (t := 30) (by decide) (by decide) (by omega) (by omega) HB19.out 8 (.int .i64 xn))
  have HB20 := Lib.hid (ten8 HB19.out (.int .i64 xn))
  have hs20 := (only_set w19 B 8 (.int .i64 xn)).size
  have HI20 := Lib.hid (fun es qs ts hh => IsEs.step (same_set (i := 8) (.int .i64 xn)) (HI19.out es qs ts hh))
  have HJ20 := Lib.hid (fun es qs ts hh => IsTs.step (same_set (i := 8) (.int .i64 xn)) (HJ19.out es qs ts hh))
  have HC20 := Lib.hid (fun c ts hh => LC.step (same_set (i := 8) (.int .i64 xn)) (HC19.out c ts hh))
  clear HI19 HJ19 HC19
  clear HR19 HB19 H19
  generalize w19.setCell ⟨B, 8, none⟩ (.int .i64 xn) = w20 at *
  have HR21 := Lib.hid (HR20.out.only (only_set w20 B 9 (.slice xa xm xc)) (by omega))
  have H21 := Lib.hid (H20.out.put (t := 30) (by decide) (by decide) (by omega) (by omega) HB20.out 9 (.slice xa xm xc))
  have HB21 := Lib.hid (ten9 HB20.out (.slice xa xm xc))
  have hs21 := (only_set w20 B 9 (.slice xa xm xc)).size
  have HI21 := Lib.hid (fun es qs ts hh => IsEs.step (same_set (i := 9) (.slice xa xm xc)) (HI20.out es qs ts hh))
  have HJ21 := Lib.hid (fun es qs ts hh => IsTs.step (same_set (i := 9) (.slice xa xm xc)) (HJ20.out es qs ts hh))
  have HC21 := Lib.hid (fun c ts hh => LC.step (same_set (i := 9) (.slice xa xm xc)) (HC20.out c ts hh))
  clear HI20 HJ20 HC20
  clear HR20 HB20 H20
  generalize w20.setCell ⟨B, 9, none⟩ (.slice xa xm xc) = w21 at *
  have HME := Lib.hid (takeEnd_d C g TS pv5 (left (rC TS)) w21 H21.out.dc)
  unfold mval at HME
  with_reducible refine HME.out.mono ?_
  rintro e w22 ⟨t, rfl, ⟨ae, ne, ke, hblk⟩, ho⟩
  have HCB := Lib.hid (show Blk w22 C 93 #[.slice ae ne ke, pv5, .int .i64 (ferr (sE TS)), .int .i64 (fat (sE TS))] from hblk)
  have HR22 := Lib.hid (HR21.out.only ho (fun e => H21.out.far HR21.out (by decide) (by decide) (.inl e)))
  have HB22 := Lib.hid (HB21.out.only ho (fun e => H21.out.far HB21.out (by decide) (by decide) (.inl e)))
  have HOW := Lib.hid (own_only H21.out.own ho (fun k hk e => H21.out.notC k hk e))
  have HON := Lib.hid (H21.out.only.then ho (fun j hj => .inl (.inl hj)))
  have HFR := Lib.hid H21.out.fr
  have HI22 := Lib.hid (fun es qs ts hh => IsEs.step (same_callC hCl ho) (HI21.out es qs ts hh))
  have HJ22 := Lib.hid (fun es qs ts hh => IsTs.step (same_callC hCl ho) (HJ21.out es qs ts hh))
  have HC22 := Lib.hid (fun c ts hh => LC.step (same_callC hCl ho) (HC21.out c ts hh))
  clear HI21 HJ21 HC21
  clear ho hblk HME
  obtain ⟨tk', tx', tn', ta'⟩ := t
  rw [tokV]
  generalize bs tx' = Y' at *
  obtain ⟨⟨c0, c1, c2, c3, c4, c5, c6, c7, c8, c9⟩, f0, f1, f2, f3, f4, f5, f6, f7, f8, f9⟩ := ten_free HB22.out
  obtain ⟨⟨z0, z1, z2, z3, z4, z5, z6, z7, z8, z9⟩, o0, o1, o2, o3, o4, o5, o6, o7, o8, o9⟩ := ten_free HR22.out
  go_wp2_with fail
  refine bodyPost_ret (results_cell_row (p := 2) rfl _ _ R 30 #[.string X, .int .i64 un, .slice ax nx kx, .slice ay ny ky, .int .i64 ak, .int .i64 xo, .int .i64 xt, .string xs, .int .i64 xn, .slice xa xm xc] (0, 0) _ rfl (put10 HR22.out) Tryz.underlying30 rfl (by kernel_rfl)) rfl ?_
  have hCR : C ≠ R := by omega
  have hp5 : pv5.ownBlock ≠ some R := own_ne HOW.out HR22.out (by decide)
  refine ⟨_, pv5, _, rfl, ⟨_, _, _, _, _, _, _, _, _, _, _, _, _, _, _, _, rfl⟩, ⟨_, _, _, HCB.out.only (Only.put10 (Only.refl (fun b => b = R) _) (.inl rfl) _ _ _ _ _ _ _ _ _ _) hCR⟩, own_only HOW.out (Only.put10 (Only.refl (fun b => b = R) _) (.inl rfl) _ _ _ _ _ _ _ _ _ _) (fun k hk e => hp5 (e ▸ hk)), Only.put10 HON.out (.inr (by omega)) _ _ _ _ _ _ _ _ _ _, HFR.out, ?_⟩
  rintro p qs ⟨nm, r1, v, r2, cs, ps, r5, bl, q2, r6, kk, r7, c, r8, g1, g2, g3, g4, g5, g6, rfl, rfl⟩
  have e1 : tx = nm := HTn.out nm r1 g1
  have e2 : un = v := HTv.out v r2 g2
  have e3 := HAK.out kk r7 g5
  injection e3 with _ e3
  subst e1
  subst e2
  subst e3
  have e4 := HPE.out cs ps r5 g3
  have e5 := HPT.out bl q2 r6 g4
  have e6 : (nxt (left (rT TS))).at' = P.here r6 := by
    rw [g4]
    exact nxt_at
  refine ⟨?_, .slice ax nx kx, .slice ay ny ky, xo, xt, xs, xn, xa, xm, xc, ?_, ?_, ?_, ?_⟩
  · rw [e6, e5, e4]
    simp
  · show Value.agg #[.string X, _, _, _, _, _, _, _, _, _] = _
    rw [← HX.out]
  · exact IsEs.step (fun b hb hl => ⟨⟨by have := hb.1; omega, hb.2.1⟩, (Only.put10 (Only.refl (fun b => b = R) w22) (.inl rfl) _ _ _ _ _ _ _ _ _ _).block b hl hb.2.2.2⟩) (HI22.out cs ps r5 g3)
  · exact IsTs.step (fun b hb hl => ⟨⟨by have := hb.1; omega, hb.2.1⟩, (Only.put10 (Only.refl (fun b => b = R) w22) (.inl rfl) _ _ _ _ _ _ _ _ _ _).block b hl hb.2.2.2⟩) (HJ22.out bl q2 r6 g4)
  · exact LC.step (fun b hb hl => ⟨⟨by have := hb.1; omega, hb.2.1⟩, (Only.put10 (Only.refl (fun b => b = R) w22) (.inl rfl) _ _ _ _ _ _ _ _ _ _).block b hl hb.2.2.2⟩) (HC22.out c r8 g6)
end Go.Proofs.YtgobcflfhabdhaaGreatDoor.Lx
