/-
  What is read can be shown, and is read again: plain words. It proves nothing of Go by itself.
-/
import Derived.Test.YtgobcflfhabdhaaGreatDoorSHW
import Derived.Test.YtgobcflfhabdhaaGreatDoorSMM
import Derived.Test.YtgobcflfhabdhaaGreatDoorDR
namespace Go.Proofs.YtgobcflfhabdhaaGreatDoor.P
open L (Tok)
set_option maxRecDepth 100000
set_option linter.unusedVariables false
set_option linter.unusedSimpArgs false
theorem top_i64 {n : Nat} (h : n ≤ L.top) : Lx.I64 (n : Int) := by
  unfold L.top at h
  constructor <;> omega
theorem zero_i64 : Lx.I64 0 := by constructor <;> omega
theorem TX.okx {e : EX} {t : List UInt8} {b : List Bo} (h : TX e t b) : Lx.okX e := by
  induction h with
  | num hn => exact ⟨top_i64 hn, trivial⟩
  | reg hk => exact ⟨zero_i64, trivial⟩
  | bin h ha hb iha ihb => exact ⟨zero_i64, iha, ihb, trivial⟩
theorem TC.okc {e : CO} {t : List UInt8} {b : List Bo} (h : TC e t b) : Lx.okC e := by
  induction h with
  | mem hk hn => exact ⟨⟨zero_i64, top_i64 hn⟩, trivial⟩
  | reg hk hn hq => exact ⟨⟨top_i64 hq, top_i64 hn⟩, trivial⟩
  | not ha ih => exact ⟨⟨zero_i64, zero_i64⟩, ih, trivial⟩
  | and ha hb iha ihb => exact ⟨⟨zero_i64, zero_i64⟩, iha, ihb, trivial⟩
  | or ha hb iha ihb => exact ⟨⟨zero_i64, zero_i64⟩, iha, ihb, trivial⟩
mutual
theorem TS.oks {d : Nat} {s : ST} {t : List UInt8} {b : List Bo} {q : List Nat} (h : TS d s t b q) : Lx.okS s := by
  cases h with
  | set hr hx => exact ⟨⟨hx.okx, trivial⟩, trivial, trivial⟩
  | load hm hr hl => exact ⟨trivial, trivial, trivial⟩
  | store hm hl hx => exact ⟨⟨hx.okx, trivial⟩, trivial, trivial⟩
  | add hm hr hl hx => exact ⟨⟨hx.okx, trivial⟩, trivial, trivial⟩
  | cas hm hr hl hx hf => exact ⟨⟨hx.okx, hf.okx, trivial⟩, trivial, trivial⟩
  | fence hm => exact ⟨trivial, trivial, trivial⟩
  | ifs hx ht => exact ⟨⟨hx.okx, trivial⟩, TSs.okss ht, trivial⟩
  | ife hx ht hne he => exact ⟨⟨hx.okx, trivial⟩, TSs.okss ht, TSs.okss he⟩
theorem TSs.okss {d : Nat} {l : List ST} {t : List UInt8} {b : List Bo} {q : List Nat} (h : TSs d l t b q) : Lx.okSs l := by
  cases h with
  | nil => exact trivial
  | cons hs hl => exact ⟨TS.oks hs, TSs.okss hl⟩
end
theorem TI.oki {cs : List (List UInt8 × Int)} {t : List UInt8} {b : List Bo} {q : List Nat} (h : TI cs t b q) : ∀ c ∈ cs, Lx.I64 c.2 := by
  induction h with
  | nil => intro c hc; cases hc
  | cons hl hn h ih =>
    intro c hc
    rcases List.mem_cons.1 hc with rfl | hc
    · exact top_i64 hn
    · exact ih c hc
theorem TT.okt {ls : List (List ST)} {t : List UInt8} {b : List Bo} {q : List Nat} (h : TT ls t b q) : ∀ l ∈ ls, Lx.okSs l := by
  induction h with
  | nil => intro c hc; cases hc
  | cons hl h ih =>
    intro c hc
    rcases List.mem_cons.1 hc with rfl | hc
    · exact hl.okss
    · exact ih c hc
theorem TP.okp {p : PG} {t : List UInt8} {b : List Bo} {q1 q2 q3 : List Nat} (h : TP p t b q1 q2 q3) : Lx.OkP p := by
  cases h with
  | mk hn hv hi ht hk hc => exact ⟨top_i64 hv, hi.oki, ht.okt, hc.okc⟩
theorem lexF_err : ∀ (f pos : Nat) (l : List UInt8) (x : L.Bad) (p : Nat), L.lexF f pos l = .error (x, p) → p ≤ pos + l.length
  | 0, pos, l, x, p, h => by cases h
  | f + 1, pos, [], x, p, h => by cases h
  | f + 1, pos, b :: r, x, p, h => by
    unfold L.lexF at h
    split at h
    · rename_i k hk
      obtain ⟨h1, h2⟩ := L.nx_skip hk
      have := lexF_err f _ _ x p h
      rw [List.length_drop] at this
      simp only [List.length_cons] at this h1 h2 ⊢
      omega
    · rename_i kind k n hk
      obtain ⟨hp, h1, h2⟩ := L.nx_piece hk
      cases e2 : L.lexF f (pos + k) (r.drop (k - 1)) with
      | error e =>
        rw [e2] at h
        cases h
        have := lexF_err f _ _ _ _ e2
        rw [List.length_drop] at this
        simp only [List.length_cons] at this h1 h2 ⊢
        omega
      | ok vs =>
        rw [e2] at h
        cases h
    · cases h
      simp only [List.length_cons]
      omega
theorem read_all {s : ByteArray} (hs : s.size ≤ 4096) : (∃ p l t b q1 q2 q3, Lx.parA s = .ok (p, l) ∧ TP p t b q1 q2 q3 ∧ t.length ≤ 1000000000000) ∨ ∃ e a, Lx.parA s = .error (e, a) ∧ a ≤ s.size ∧ (e = 2 ∨ e = 3) := by
  have hbl : (Lx.by' s).length = s.size := Lx.by_len s
  cases h1 : L.lexL 0 (Lx.by' s) with
  | error x =>
    obtain ⟨x, a⟩ := x
    refine .inr ⟨Lx.eno x, a, ?_, ?_, by cases x; exact .inl rfl; exact .inr rfl⟩
    · unfold Lx.parA
      rw [Lx.lexA, if_pos hs, h1]
    · rw [← L.lexF_eq (Lx.by' s).length 0 (Lx.by' s) (Nat.le_refl _)] at h1
      have := lexF_err _ _ _ _ _ h1
      omega
  | ok ts =>
    obtain ⟨us, rfl, hi⟩ := L.lexL_ins h1
    have hds : Sds (fun x => x ≤ s.size) (us ++ [⟨4, [], 0, 0 + (Lx.by' s).length⟩]) := by
      intro t ht
      rcases List.mem_append.1 ht with ht | ht
      · have h2 := hi.all t ht
        refine ⟨fun hk => ?_, fun hk => L.piece_top h2.piece, ?_⟩
        · have h3 := h2.piece
          rw [hk] at h3
          generalize t.text = tx at h3
          generalize t.n = tn at h3
          cases h3 with
          | word hb hr => exact ⟨_, _, rfl, hb, hr⟩
        · have := h2.to
          show t.at' ≤ s.size
          omega
      · rw [List.mem_singleton.1 ht]
        refine ⟨fun hk => (by cases hk), fun hk => (by cases hk), ?_⟩
        show 0 + (Lx.by' s).length ≤ s.size
        omega
    obtain ⟨g1, g2⟩ := prog_rd (PL := fun x => x ≤ s.size) (Nat.zero_le _) hds
    cases e : pProg (us ++ [⟨4, [], 0, 0 + (Lx.by' s).length⟩]) with
    | ok x =>
      obtain ⟨p, l⟩ := x
      obtain ⟨t, b', q1, q2, q3, h⟩ := g1 p l e
      have hl := lex_len (by omega) h1 e
      rw [← h.xp] at hl
      exact .inl ⟨p, l, t, b', q1, q2, q3, Lx.parA_of hs h1 e, h, hl⟩
    | error a => exact .inr ⟨2, a, Lx.parA_no hs h1 e, g2 a e, .inl rfl⟩
end Go.Proofs.YtgobcflfhabdhaaGreatDoor.P
namespace Go.Proofs.YtgobcflfhabdhaaGreatDoor.Lx
open Go.RowKit
open P (PG)
theorem pparse_at (s : ByteArray) (o : Except (Nat × Nat) (PG × List Nat)) (w : World) (h : parA s = o) : Calls Tryz.prog 10 #[.string s] w (ParseTo o w) := by
  subst h
  exact parse_any s w
end Go.Proofs.YtgobcflfhabdhaaGreatDoor.Lx
/-
  That show does something: begun.
-/
namespace Go.Proofs.YtgobcflfhabdhaaGreatDoor.Lx
open Go.RowKit
open P (EX CO ST PG)
set_option maxRecDepth 100000
set_option linter.unusedVariables false
set_option linter.unusedSimpArgs false
theorem four_new (w : World) (t1 t2 t3 t4 : TypeId) (c1 c2 c3 c4 : Array Value) :
    Below w.heap.size w ((((w.alloc (.cells c1 t1)).alloc (.cells c2 t2)).alloc (.cells c3 t3)).alloc (.cells c4 t4)) ∧ Blk ((((w.alloc (.cells c1 t1)).alloc (.cells c2 t2)).alloc (.cells c3 t3)).alloc (.cells c4 t4)) w.heap.size t1 c1 ∧ Blk ((((w.alloc (.cells c1 t1)).alloc (.cells c2 t2)).alloc (.cells c3 t3)).alloc (.cells c4 t4)) (w.heap.size + 1) t2 c2 ∧ Blk ((((w.alloc (.cells c1 t1)).alloc (.cells c2 t2)).alloc (.cells c3 t3)).alloc (.cells c4 t4)) (w.heap.size + 1 + 1) t3 c3 ∧ Blk ((((w.alloc (.cells c1 t1)).alloc (.cells c2 t2)).alloc (.cells c3 t3)).alloc (.cells c4 t4)) (w.heap.size + 1 + 1 + 1) t4 c4 := by
  have h2 := Blk.new (w.alloc (.cells c1 t1)) t2 c2
  rw [show (w.alloc (.cells c1 t1)).heap.size = w.heap.size + 1 by simp] at h2
  have h3 := Blk.new ((w.alloc (.cells c1 t1)).alloc (.cells c2 t2)) t3 c3
  rw [show ((w.alloc (.cells c1 t1)).alloc (.cells c2 t2)).heap.size = w.heap.size + 1 + 1 by simp] at h3
  have h4 := Blk.new (((w.alloc (.cells c1 t1)).alloc (.cells c2 t2)).alloc (.cells c3 t3)) t4 c4
  rw [show (((w.alloc (.cells c1 t1)).alloc (.cells c2 t2)).alloc (.cells c3 t3)).heap.size = w.heap.size + 1 + 1 + 1 by simp] at h4
  exact ⟨((((Below.refl _ _).alloc (Nat.le_refl _) _).alloc (by simp) _).alloc (by simp; omega) _).alloc (by simp; omega) _, (((Blk.new w t1 c1).alloc _).alloc _).alloc _, (h2.alloc _).alloc _, h3.alloc _, h4⟩
def ex8 : EX := .mk 3 0 [] [.mk 2 0 [114] [], .mk 1 1 [] []]
def co8 : CO := .mk 3 0 [] 0 [.mk 2 1 [114] 0 []]
def pg8 : PG := ⟨[97], 2, [([120], 0)], [[.mk 6 4 [] [] [] [] []]], 1, co8⟩
theorem one_i64 : I64 1 := by constructor <;> omega
theorem ex8_text : P.xE ex8 = [40, 114, 32, 43, 32, 49, 41] := by
  have h1 : P.xN 1 = [49] := (P.xN_nat 1).trans (L.dec_small (by decide))
  simp only [ex8, P.xE, P.xEs, P.midE, h1]
  rfl
theorem co8_text : P.xC co8 = [110, 111, 116, 32, 49, 58, 114, 32, 61, 61, 32, 48] := by
  have h1 : P.xN 1 = [49] := (P.xN_nat 1).trans (L.dec_small (by decide))
  have h0 : P.xN 0 = [48] := (P.xN_nat 0).trans (L.dec_small (by decide))
  simp only [co8, P.xC, P.xCs, h1, h0]
  rfl
theorem pg8_text : P.xP pg8 = [108, 105, 116, 109, 117, 115, 32, 97, 32, 118, 97, 108, 117, 101, 115, 32, 50, 10, 105, 110, 105, 116, 32, 120, 32, 48, 10, 116, 104, 114, 101, 97, 100, 32, 123, 10, 32, 32, 102, 101, 110, 99, 101, 32, 115, 99, 59, 10, 125, 10, 101, 120, 105, 115, 116, 115, 32, 110, 111, 116, 32, 49, 58, 114, 32, 61, 61, 32, 48, 10] := by
  have h1 : P.xN 1 = [49] := (P.xN_nat 1).trans (L.dec_small (by decide))
  have h0 : P.xN 0 = [48] := (P.xN_nat 0).trans (L.dec_small (by decide))
  have h2 : P.xN 2 = [50] := (P.xN_nat 2).trans (L.dec_small (by decide))
  simp only [pg8, co8, P.xP, P.xI, P.xC, P.xCs, h1, h0, h2, List.map_cons, List.map_nil]
  rfl
theorem ok_ex8 : okX ex8 := by
  exact ⟨P.zero_i64, ⟨P.zero_i64, trivial⟩, ⟨one_i64, trivial⟩, trivial⟩
theorem ok_co8 : okC co8 := by
  exact ⟨⟨P.zero_i64, P.zero_i64⟩, ⟨⟨one_i64, P.zero_i64⟩, trivial⟩, trivial⟩
theorem ok_pg8 : OkP pg8 := by
  refine ⟨by constructor <;> decide, fun c hc => ?_, fun l hl => ?_, ok_co8⟩
  · rw [List.mem_singleton.1 hc]
    constructor <;> decide
  · rw [List.mem_singleton.1 hl]
    exact ⟨⟨trivial, trivial, trivial⟩, trivial⟩
theorem lx8 {w : World} {g : Nat} {t : TypeId} (h : Blk w g t #[.int .i64 2, .int .i64 0, .string ⟨#[114]⟩, .slice none 0 0, .int .i64 1, .int .i64 1, .string ⟨#[]⟩, .slice none 0 0]) : LX (fun _ => True) w (.agg #[.int .i64 3, .int .i64 0, .string ⟨#[]⟩, .slice (some ⟨g, 0, none⟩) 2 2]) ex8 := by
  unfold ex8 LX
  refine ⟨some ⟨g, 0, none⟩, 2, rfl, by decide, .inr ⟨g, 0, rfl, trivial, ?_⟩⟩
  unfold LXs
  refine ⟨⟨_, _, _, _, h.cell 0, h.cell 1, h.cell 2, h.cell 3, ?_⟩, ?_⟩
  · unfold LX
    exact ⟨none, 0, rfl, by decide, .inl rfl⟩
  · unfold LXs
    refine ⟨⟨_, _, _, _, h.cell 4, h.cell 5, h.cell 6, h.cell 7, ?_⟩, trivial⟩
    unfold LX
    exact ⟨none, 0, rfl, by decide, .inl rfl⟩
theorem lc8 {w : World} {g : Nat} {t : TypeId} (h : Blk w g t #[.int .i64 2, .int .i64 1, .string ⟨#[114]⟩, .int .i64 0, .slice none 0 0]) : LC (fun _ => True) w (.agg #[.int .i64 3, .int .i64 0, .string ⟨#[]⟩, .int .i64 0, .slice (some ⟨g, 0, none⟩) 1 1]) co8 := by
  unfold co8 LC
  refine ⟨some ⟨g, 0, none⟩, 1, rfl, by decide, .inr ⟨g, 0, rfl, trivial, ?_⟩⟩
  unfold LCs
  refine ⟨⟨_, _, _, _, _, h.cell 0, h.cell 1, h.cell 2, h.cell 3, h.cell 4, ?_⟩, trivial⟩
  unfold LC
  exact ⟨none, 0, rfl, by decide, .inl rfl⟩
theorem lp8 {w : World} {gi gs gt gc : Nat} {ti ts tt tc : TypeId} (hi : Blk w gi ti #[.string ⟨#[120]⟩, .int .i64 0]) (hs : Blk w gs ts #[.int .i64 6, .int .i64 4, .string ⟨#[]⟩, .string ⟨#[]⟩, .slice none 0 0, .slice none 0 0, .slice none 0 0]) (ht : Blk w gt tt #[.slice (some ⟨gs, 0, none⟩) 1 1]) (hc : Blk w gc tc #[.int .i64 2, .int .i64 1, .string ⟨#[114]⟩, .int .i64 0, .slice none 0 0]) : LPg (fun _ => True) w (.agg #[.string ⟨#[97]⟩, .int .i64 2, .slice (some ⟨gi, 0, none⟩) 1 1, .slice (some ⟨gt, 0, none⟩) 1 1, .int .i64 1, .int .i64 3, .int .i64 0, .string ⟨#[]⟩, .int .i64 0, .slice (some ⟨gc, 0, none⟩) 1 1]) pg8 := by
  refine ⟨_, _, _, _, _, _, _, _, _, rfl, ⟨some ⟨gi, 0, none⟩, 1, rfl, by decide, .inr ⟨gi, 0, rfl, trivial, ?_⟩⟩, ⟨some ⟨gt, 0, none⟩, 1, rfl, by decide, .inr ⟨gt, 0, rfl, trivial, ?_⟩⟩, lc8 hc⟩
  · unfold LEs
    exact ⟨⟨hi.cell 0, hi.cell 1⟩, trivial⟩
  · unfold LTs
    refine ⟨⟨_, ht.cell 0, some ⟨gs, 0, none⟩, 1, rfl, by decide, .inr ⟨gs, 0, rfl, trivial, ?_⟩⟩, trivial⟩
    unfold LSs
    refine ⟨⟨_, _, _, _, _, _, _, hs.cell 0, hs.cell 1, hs.cell 2, hs.cell 3, hs.cell 4, hs.cell 5, hs.cell 6, ?_⟩, trivial⟩
    unfold LS
    exact ⟨none, 0, none, 0, none, 0, rfl, by decide, by decide, by decide, .inl rfl, .inl rfl, .inl rfl⟩
theorem show_e8 (Q : Nat → Prop) (v : Value) (w : World) (hv : LX Q w v ex8) (ht : Tb w.heap.size w) : Calls Tryz.prog 13 #[v] w (fun e w' => e = .returned (.string ⟨#[40, 114, 32, 43, 32, 49, 41]⟩) ∧ Below w.heap.size w w') := by
  have h := show_expr ex8 ok_ex8 (by rw [ex8_text]; simp) (by rw [ex8_text]; decide) v w hv ht
  rw [ex8_text] at h
  exact h
theorem show_c8 (Q : Nat → Prop) (v : Value) (w : World) (hv : LC Q w v co8) (ht : Tb w.heap.size w) : Calls Tryz.prog 15 #[v] w (fun e w' => e = .returned (.string ⟨#[110, 111, 116, 32, 49, 58, 114, 32, 61, 61, 32, 48]⟩) ∧ Below w.heap.size w w') := by
  have h := show_cond co8 ok_co8 (by rw [co8_text]; simp) (by rw [co8_text]; decide) v w hv ht
  rw [co8_text] at h
  exact h
theorem show_p8 (Q : Nat → Prop) (v : Value) (w : World) (hv : LPg Q w v pg8) (ht : Tb w.heap.size w) : Calls Tryz.prog 9 #[v] w (fun e w' => e = .returned (.string ⟨#[108, 105, 116, 109, 117, 115, 32, 97, 32, 118, 97, 108, 117, 101, 115, 32, 50, 10, 105, 110, 105, 116, 32, 120, 32, 48, 10, 116, 104, 114, 101, 97, 100, 32, 123, 10, 32, 32, 102, 101, 110, 99, 101, 32, 115, 99, 59, 10, 125, 10, 101, 120, 105, 115, 116, 115, 32, 110, 111, 116, 32, 49, 58, 114, 32, 61, 61, 32, 48, 10]⟩) ∧ Below w.heap.size w w') := by
  have h := show_prog pg8 ok_pg8 (by rw [pg8_text]; decide) v w hv ht
  rw [pg8_text] at h
  exact h
theorem mode_three (w : World) : Calls Tryz.prog 16 #[.int .i64 3] w (fun e w' => e = .returned (.string ⟨#[97, 99, 113, 114, 101, 108]⟩) ∧ w = w') := mode_is 3 w
theorem mode_nine (w : World) : Calls Tryz.prog 16 #[.int .i64 9] w (fun e w' => e = .returned (.string ⟨#[]⟩) ∧ w = w') := mode_is 9 w
set_option maxHeartbeats 6400000 in
theorem begun8_any (w : World) (ht : Tb w.heap.size w) : Calls Tryz.prog 6 #[] w (BoolTo true w) := by
  have HT := Lib.hid ht
  clear ht
  go_enter Tryz.func6, Tryz.ntmps6
  go_upto_region 2 with (fail)
  obtain ⟨hb1, hx1, hx2, hs1⟩ := two_new w 46 46 #[.int .i64 2, .int .i64 0, .string ⟨#[114]⟩, .slice none 0 0, .int .i64 1, .int .i64 1, .string ⟨#[]⟩, .slice none 0 0] #[.int .i64 3, .int .i64 0, .string ⟨#[]⟩, .slice (some ⟨w.heap.size, 0, none⟩) 2 2]
  have HX1 := Lib.hid hx1
  have HX2 := Lib.hid hx2
  have HB1 := Lib.hid hb1
  clear hb1 hx1 hx2 hs1
  generalize (w.alloc (.cells #[.int .i64 2, .int .i64 0, .string ⟨#[114]⟩, .slice none 0 0, .int .i64 1, .int .i64 1, .string ⟨#[]⟩, .slice none 0 0] 46)).alloc (.cells #[.int .i64 3, .int .i64 0, .string ⟨#[]⟩, .slice (some ⟨w.heap.size, 0, none⟩) 2 2] 46) = w1 at *
  go_upto_region 3 with (fail)
  obtain ⟨hb2, hc1, hc2, hs2⟩ := two_new w1 28 28 #[.int .i64 2, .int .i64 1, .string ⟨#[114]⟩, .int .i64 0, .slice none 0 0] #[.int .i64 3, .int .i64 0, .string ⟨#[]⟩, .int .i64 0, .slice (some ⟨w1.heap.size, 0, none⟩) 1 1]
  have HC1 := Lib.hid hc1
  have HC2 := Lib.hid hc2
  have HX1 := Lib.hid (HX1.out.live' hb2)
  have HX2 := Lib.hid (HX2.out.live' hb2)
  have HB2 := Lib.hid (HB1.out.trans (hb2.mono HB1.out.size))
  clear hb2 hc1 hc2 hs2
  generalize (w1.alloc (.cells #[.int .i64 2, .int .i64 1, .string ⟨#[114]⟩, .int .i64 0, .slice none 0 0] 28)).alloc (.cells #[.int .i64 3, .int .i64 0, .string ⟨#[]⟩, .int .i64 0, .slice (some ⟨w1.heap.size, 0, none⟩) 1 1] 28) = w2 at *
  obtain ⟨s0, s1, s2, s3, s4⟩ := five_cells (((HC2.out.alloc (.cells #[.string ⟨#[120]⟩, .int .i64 0] 55)).alloc (.cells #[.int .i64 6, .int .i64 4, .string ⟨#[]⟩, .string ⟨#[]⟩, .slice none 0 0, .slice none 0 0, .slice none 0 0] 52)).alloc (.cells #[.slice (some ⟨w2.heap.size + 1, 0, none⟩) 1 1] 50))
  have HS3 := Lib.hid (four_new w2 55 52 50 30 #[.string ⟨#[120]⟩, .int .i64 0] #[.int .i64 6, .int .i64 4, .string ⟨#[]⟩, .string ⟨#[]⟩, .slice none 0 0, .slice none 0 0, .slice none 0 0] #[.slice (some ⟨w2.heap.size + 1, 0, none⟩) 1 1] #[.string ⟨#[97]⟩, .int .i64 2, .slice (some ⟨w2.heap.size, 0, none⟩) 1 1, .slice (some ⟨w2.heap.size + 1 + 1, 0, none⟩) 1 1, .int .i64 1, .int .i64 3, .int .i64 0, .string ⟨#[]⟩, .int .i64 0, .slice (some ⟨w1.heap.size, 0, none⟩) 1 1])
  go_upto_region 4 with (fail)
  clear s0 s1 s2 s3 s4
  obtain ⟨hb3, hi, hs, hl, hp⟩ := HS3.out
  have HX1 := Lib.hid (HX1.out.live' hb3)
  have HX2 := Lib.hid (HX2.out.live' hb3)
  have HC1 := Lib.hid (HC1.out.live' hb3)
  have HC2 := Lib.hid (HC2.out.live' hb3)
  have HB3 := Lib.hid (HB2.out.trans (hb3.mono HB2.out.size))
  have HLX := Lib.hid (lx8 HX1.out)
  have HLC := Lib.hid (lc8 HC1.out)
  have HLP := Lib.hid (lp8 hi hs hl HC1.out)
  have HP := Lib.hid hp
  clear HS3 hb3 hi hs hl hp HB1 HB2
  generalize (((w2.alloc (.cells #[.string ⟨#[120]⟩, .int .i64 0] 55)).alloc (.cells #[.int .i64 6, .int .i64 4, .string ⟨#[]⟩, .string ⟨#[]⟩, .slice none 0 0, .slice none 0 0, .slice none 0 0] 52)).alloc (.cells #[.slice (some ⟨w2.heap.size + 1, 0, none⟩) 1 1] 50)).alloc (.cells #[.string ⟨#[97]⟩, .int .i64 2, .slice (some ⟨w2.heap.size, 0, none⟩) 1 1, .slice (some ⟨w2.heap.size + 1 + 1, 0, none⟩) 1 1, .int .i64 1, .int .i64 3, .int .i64 0, .string ⟨#[]⟩, .int .i64 0, .slice (some ⟨w1.heap.size, 0, none⟩) 1 1] 30) = w3 at *
  obtain ⟨s0, s1, s2, s3, _, _, _, _⟩ := four_free HX2.out
  go_wp2_with fail
  with_reducible refine (show_e8 _ _ w3 HLX.out (HT.out.from HB3.out HB3.out.size)).mono ?_
  rintro e w4 ⟨rfl, hb4⟩
  have HB4 := Lib.hid (HB3.out.trans (hb4.mono HB3.out.size))
  obtain ⟨z0, z1, z2, z3, z4⟩ := five_cells (HC2.out.live' hb4)
  have HP4 := Lib.hid (HP.out.live' hb4)
  have HLC4 := Lib.hid (HLC.out.keep (fun g hg hl => hb4.block g hl))
  have HLP4 := Lib.hid (HLP.out.keep (fun g hg hl => hb4.block g hl))
  clear hb4 s0 s1 s2 s3
  go_wp2_with fail
  with_reducible refine (show_c8 _ _ w4 HLC4.out (HT.out.from HB4.out HB4.out.size)).mono ?_
  rintro e w5 ⟨rfl, hb5⟩
  have HB5 := Lib.hid (HB4.out.trans (hb5.mono HB4.out.size))
  have HLP5 := Lib.hid (HLP4.out.keep (fun g hg hl => hb5.block g hl))
  obtain ⟨⟨q0, q1, q2, q3, q4, q5, q6, q7, q8, q9⟩, _⟩ := ten_free (HP4.out.live' hb5)
  clear hb5 z0 z1 z2 z3 z4
  go_wp2_with fail
  with_reducible refine (show_p8 _ _ w5 HLP5.out (HT.out.from HB5.out HB5.out.size)).mono ?_
  rintro e w6 ⟨rfl, hb6⟩
  have HB6 := Lib.hid (HB5.out.trans (hb6.mono HB5.out.size))
  clear hb6 q0 q1 q2 q3 q4 q5 q6 q7 q8 q9
  go_wp2_with fail
  with_reducible refine (mode_three w6).mono ?_
  rintro e w7 ⟨rfl, rfl⟩
  go_wp2_with fail
  with_reducible refine (mode_nine w6).mono ?_
  rintro e w7 ⟨rfl, rfl⟩
  go_wp2_with fail
  go_ret
  exact ⟨rfl, HB6.out⟩
end Go.Proofs.YtgobcflfhabdhaaGreatDoor.Lx
