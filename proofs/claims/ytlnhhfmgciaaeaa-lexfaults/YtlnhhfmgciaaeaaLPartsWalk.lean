/-
  LexParts' walk: for any tokens, however they are parted, it returns true, and nothing old turns.
-/
import Derived.Test.YtlnhhfmgciaaeaaLBegun
import Derived.Test.YtlnhhfmgciaaeaaLPiece
import Derived.Test.YtlnhhfmgciaaeaaLBytes
import Derived.Deep.RegionHeld3
import Derived.Deep.DeepCutAuto
namespace Go.Proofs.Ytlnhhfmgciaaeaa.Lx
open Go.RowKit
set_option linter.unusedVariables false
set_option linter.unusedSimpArgs false
/-- A text that brings just these tokens, whatever stands behind it. -/
def Brings (T : ByteArray) (ts : List L.Tok) : Prop := ∀ r, L.lexL 0 (by' T ++ r) = L.pre ts (L.lexL T.size r)
/-- What parts tokens. -/
structure Sep (S : ByteArray) : Prop where
  parts : L.Parts (by' S)
  ne : by' S ≠ []
  stops : L.Stops L.goesB (by' S)
  len : S.size ≤ 13
theorem Brings.sep {S : ByteArray} (h : Sep S) : Brings S [] := fun r => by
  rw [h.parts, L.pre_nil, by_len, Nat.zero_add]
theorem Brings.more {T S : ByteArray} {ts : List L.Tok} {k n : Nat} {p : List UInt8} (h : Brings T ts) (hS : Sep S) (hp : L.Piece k p n) (P : ByteArray) (hP : P = bs p) : Brings (T ++ P ++ S) (ts ++ [⟨k, p, n, T.size⟩]) := fun r => by
  have he := hp.eats hS.ne hS.stops hS.parts T.size r
  subst hP
  rw [by_app, by_app, by_bs, List.append_assoc, List.append_assoc, h, ← List.append_assoc, he, L.pre_pre, List.length_append, by_len, ByteArray.size_append', ByteArray.size_append', bs_size, Nat.add_assoc]
theorem Brings.all {T : ByteArray} {ts : List L.Tok} (h : Brings T ts) (hl : T.size ≤ 4096) : lexA T = .ok (ts ++ [⟨4, [], 0, T.size⟩]) := by
  have := h []
  rw [List.append_nil, L.lex_nil] at this
  rw [lexA, if_pos hl, this]
  rfl
def sepL (h : Nat) : List UInt8 := [[32], [10], [9, 32, 13, 10], [32, 47, 47, 32, 61, 32, 108, 111, 97, 100, 32, 63, 10], [47, 47, 10]].getD h []
theorem sep_is (h : Nat) (hh : h < 5) : Sep (bs (sepL h)) := by
  match h, hh with
  | 0, _ => exact ⟨L.parts_blank (by decide), by decide, by rfl, by decide⟩
  | 1, _ => exact ⟨L.parts_blank (by decide), by decide, by rfl, by decide⟩
  | 2, _ => exact ⟨(L.parts_blank (b := 9) (by decide)).append ((L.parts_blank (b := 32) (by decide)).append ((L.parts_blank (b := 13) (by decide)).append (L.parts_blank (b := 10) (by decide)))), by decide, by rfl, by decide⟩
  | 3, _ => exact ⟨(L.parts_blank (b := 32) (by decide)).append (L.parts_remark (m := [32, 61, 32, 108, 111, 97, 100, 32, 63]) (by decide)), by decide, by rfl, by decide⟩
  | 4, _ => exact ⟨L.parts_remark (m := []) (by decide), by decide, by rfl, by decide⟩
  | n + 5, h => exact absurd h (by omega)
theorem pc_len (k n : Nat) (hn : n < 256) : (pcT k n).length ≤ 19 := by
  unfold pcT
  by_cases h0 : k % 3 = 0
  · rw [if_pos h0]
    have : ∀ j, j < 8 → (words8.getD j []).length ≤ 19 := by decide
    exact this _ (by omega)
  · rw [if_neg h0]
    by_cases h1 : k % 3 = 1
    · rw [if_pos h1]
      exact dec_max n (by omega)
    · rw [if_neg h1]
      have : ∀ j, j < 12 → (signs12.getD j []).length ≤ 19 := by decide
      exact this _ (by omega)
/-- The separator is chosen. -/
def SepR (how : Nat) (w0 : World) (s : Value) (wx : World) : Prop := s = .string (bs (sepL (how % 5))) ∧ Below w0.heap.size w0 wx
/-- What a round leaves. -/
def PartsR (len : Nat) (w0 : World) (tv vv iv : Value) (wr : World) : Prop :=
  ∃ (i : Nat) (T : ByteArray) (ts : List L.Tok), tv = .string T ∧ iv = .int .i64 i ∧ i ≤ len + 1 ∧ T.size ≤ 13 + 40 * i ∧ ts.length ≤ i ∧ Brings T ts ∧ Own wr w0.heap.size vv ts ∧ Below w0.heap.size w0 wr
theorem parts_step {len i x y : Nat} {T S P : ByteArray} {ts : List L.Tok} {w0 wr w7 w2 : World} {vv vv' : Value} {K N Z : Int} (hlt : i + 1 < len) (hT : T.size ≤ 13 + 40 * i) (hts : ts.length ≤ i) (hPz : P.size ≤ 19) (hSz : S.size ≤ 13) (hM : Brings (T ++ P ++ S) (ts ++ [⟨pcK x, pcT x y, pcN x y, T.size⟩])) (hP : bs (pcT x y) = P)
    (hK : ((pcK x : Nat) : Int) = K) (hN : ((pcN x y : Nat) : Int) = N) (hZ : (T.size : Int) = Z) (hown : Own wr w0.heap.size vv ts) (hbel : Below w0.heap.size w0 wr) (hb7 : Below wr.heap.size wr w7) (o1 o2 : Obj)
    (hown2 : w2.ownsRow w0.heap.size 37 4 vv' (ts.length + 1) (flat ts ++ [.int .i64 K, .string P, .int .i64 N, .int .i64 Z])) (hg : ((w7.alloc o1).alloc o2).grownBy w2 vv.ownBlock) : PartsR len w0 (.string (T ++ P ++ S)) vv' (.int .i64 ((i : Int) + 2)) w2 := by
  have hsz := hbel.size
  have hsz7 := hb7.size
  refine ⟨i + 2, T ++ P ++ S, ts ++ [⟨pcK x, pcT x y, pcN x y, T.size⟩], rfl, by go_num, by omega, ?_, ?_, hM, own_snoc hown2 hK hP hN hZ, ?_⟩
  · rw [ByteArray.size_append', ByteArray.size_append']
    omega
  · rw [List.length_append]
    show ts.length + 1 ≤ i + 2
    omega
  · exact (((hbel.trans (hb7.mono hsz)).alloc (by omega) _).alloc (by simp; omega) _).grown hg (by simp; omega) (fun k hk => (hown.lt k hk).1)
set_option maxRecDepth 100000 in
set_option maxHeartbeats 4000000 in
theorem parts_law (a : Option Addr) (len cap : Nat) (xs : List Nat) (how : Nat) (w : World) (hx : IsBytes w a len xs) (hh : how < 256) : Calls Try.prog 4 #[.slice a len cap, .int .u8 (how : Nat)] w (BoolTo true w) := by
  obtain ⟨i0, hi, hz0, hz1, hz2⟩ := info_parts Try.infoTok
  have HI := Lib.hid hi
  have HZ0 := Lib.hid hz0
  have HZ1 := Lib.hid hz1
  have HZ2 := Lib.hid hz2
  clear hi hz0 hz1 hz2
  have hlm := hx.2.1
  have HX := Lib.hid hx
  clear hx
  by_cases hl : len ≤ 60
  · have e1 : decide ((60 : Int) < (len : Int)) = false := by simp; omega
    go_enter Try.func4, Try.ntmps4
    go_wp2_with fail
    with_reducible refine (begun_any _).mono ?_
    rintro e w0 ⟨rfl, hb0⟩
    have HX0 := Lib.hid (HX.out.below hb0)
    have HB0 := Lib.hid hb0
    clear hb0 HX
    go_upto_region 5 with (fail)
    go_cut [5] (fun s wx => SepR how w0 s wx)
    case first =>
      have h5 : how % 5 = 0 ∨ how % 5 = 1 ∨ how % 5 = 2 ∨ how % 5 = 3 ∨ how % 5 = 4 := by omega
      rcases h5 with h | h | h | h | h
      all_goals
        have HR := Lib.hid h
        first | have m1 : (how : Int) % 5 = 0 := by omega | have m1 : (how : Int) % 5 = 1 := by omega | have m1 : (how : Int) % 5 = 2 := by omega | have m1 : (how : Int) % 5 = 3 := by omega | have m1 : (how : Int) % 5 = 4 := by omega
        clear h
        go_wp2_with fail
        go_meet
        case rel => exact ⟨by rw [HR.out]; rfl, (Below.refl _ _).alloc (Nat.le_refl _) _⟩
    case rest =>
      obtain ⟨rfl, hbc⟩ := hcut
      have HSEP := Lib.hid (sep_is (how % 5) (by omega))
      generalize bs (sepL (how % 5)) = S at *
      have hSl := HSEP.out.len
      have HBR := Lib.hid (Brings.sep HSEP.out)
      have HBC := Lib.hid hbc
      clear hbc
      go_wp2_with fail
      go_loopw [6, 7, 8] (fun tv vv iv wr => PartsR len w0 tv vv iv wr) (fun _ _ iv _ => 100 - (intOf iv).toNat)
      case atStart => exact ⟨0, S, [], rfl, rfl, by omega, by omega, by simp, HBR.out, World.ownsRow_nil _ _ _ _, HBC.out⟩
      case round =>
        obtain ⟨i, T, ts, rfl, rfl, hi, hT, hts, hBr, hown, hbel⟩ := hrel
        have HBr := Lib.hid hBr
        have HOW := Lib.hid hown
        have HBE := Lib.hid hbel
        have hsz := hbel.size
        clear hBr hown hbel
        by_cases hlt : i + 1 < len
        · have hxr := HX0.out.below HBE.out
          obtain ⟨b, off, rfl, hc⟩ := hxr.at (by omega)
          have c1 := hc i (by omega)
          have c2 := hc (i + 1) hlt
          have x1 := hxr.2.2.1 i
          have x2 := hxr.2.2.1 (i + 1)
          have hbl := World.block_lt_of_cell? wr _ c1
          have hbl' : b < wr.heap.size := hbl
          clear hc hxr hbl
          generalize xs.getD i 0 = x at *
          generalize xs.getD (i + 1) 0 = y at *
          have HPC := Lib.hid (pc_piece x y x2)
          have hpl : (bs (pcT x y)).size ≤ 19 := by rw [bs_size]; exact pc_len x y x2
          have HM := Lib.hid (Brings.more HBr.out HSEP.out (pc_piece x y x2) _ rfl)
          have HP := Lib.hid (fun w => piece_any x y w x1 x2)
          have HTN := Lib.hid (show bs (pcT x y) = bs (pcT x y) from rfl)
          have HKN := Lib.hid (show (pcK x = 2 ∧ pcN x y = y) ∨ ((((pcK x : Nat) : Int) == 2) = false ∧ pcN x y = 0) by
            unfold pcK pcN
            by_cases h0 : x % 3 = 0
            · rw [if_pos h0, if_neg (by omega)]
              exact .inr ⟨by decide, rfl⟩
            · rw [if_neg h0]
              by_cases h1 : x % 3 = 1
              · rw [if_pos h1, if_pos h1]
                exact .inl ⟨rfl, rfl⟩
              · rw [if_neg h1, if_neg h1]
                exact .inr ⟨by decide, rfl⟩)
          have d1 : decide ((i : Int) + 1 < (len : Int)) = true := by simp; omega
          have n1 : (0 : Int) ≤ (i : Int) := by omega
          have n2 : (i : Int) < (len : Int) := by omega
          have n3 : (0 : Int) ≤ (i : Int) + 1 := by omega
          have n4 : (i : Int) + 1 < (len : Int) := by omega
          have n5 : ((i : Int) + 1).toNat = i + 1 := by omega
          go_wp2_with fail
          have HK0 : Hid (wr.cell? ⟨b, off + i, none⟩ = some (.int .u8 (x : Nat)) ∧ wr.cell? ⟨b, off + (i + 1), none⟩ = some (.int .u8 (y : Nat))) := ⟨c1, c2⟩
          have HK7 : Hid (∀ w7, Below wr.heap.size wr w7 → w7.cell? ⟨b, off + i, none⟩ = some (.int .u8 (x : Nat)) ∧ w7.cell? ⟨b, off + (i + 1), none⟩ = some (.int .u8 (y : Nat))) := fun w7 h7 => ⟨(h7.cell (p := ⟨b, off + i, none⟩) hbl').trans c1, (h7.cell (p := ⟨b, off + (i + 1), none⟩) hbl').trans c2⟩
          have n6 : IntKind.i64.wrap ((i : Int) + 1) = (i : Int) + 1 := IntWalk.i64_in _ (by omega)
          go_region_held3 (fun w' => w'.cell? ⟨b, off + i, none⟩ = some (.int .u8 (x : Nat)) ∧ w'.cell? ⟨b, off + (i + 1), none⟩ = some (.int .u8 (y : Nat)))
            (first
              | exact HK0.out
              | assumption
              | go_keep)
            (first
              | (go_at_call 16; refine (HP.out _).mono ?_; rintro e w7 ⟨rfl, hb7⟩; have hb7' := (below_drewN (Below.refl _ _) 1).trans hb7; have hS7 := HK7.out w7 hb7'; clear hb7))
          clear n6
          obtain ⟨k1, k2⟩ := hS7
          have hsz7 := hb7'.size
          have hb77 : b < w7.heap.size := by omega
          have HB7 := Lib.hid hb7'
          have HO7 := Lib.hid (own_below HOW.out hb7')
          clear hb7'
          generalize hP : bs (pcT x y) = P at *
          have HPE := Lib.hid hP
          clear hP HTN
          have s1 : ¬ T.size + P.size > 9223372036854775807 := by omega
          have s2 : ¬ T.size + P.size + S.size > 9223372036854775807 := by omega
          rcases HKN.out with ⟨hk, hn⟩ | ⟨hk, hn⟩
          · obtain ⟨K, hK⟩ : ∃ K : Int, ((pcK x : Nat) : Int) = K := ⟨_, rfl⟩
            have HN := Lib.hid (show ((pcN x y : Nat) : Int) = (y : Int) by rw [hn])
            have HKE := Lib.hid (show ((pcK x : Nat) : Int) = 2 by rw [hk]; rfl)
            rw [HKE.out]
            clear hK K hk hn HKN
            go_wp2_with (at_builtin; refine wpList_append_own _ rfl (.tmp 59) (.tmp 61) 23 rfl w0.heap.size 37 i0 (.agg #[.int .i64 0, .string ⟨#[]⟩, .int .i64 0, .int .i64 0]) 4 40 Try.underlying23 HI.out HZ0.out HZ1.out HZ2.out rfl (by decide) _ _ _ rfl ((HO7.out.alloc _).alloc _) ⟨w7.heap.size + 1, 0, none⟩ 1 1 [.int .i64 2, .string P, .int .i64 (y : Nat), .int .i64 (T.size : Nat)] rfl rfl (new4' _ _ (by simp) _ _ _ _ _) (one4 _ _ _ _) (by unfold maxLen; omega) (by omega) (by simp; omega) ?_; intro v' w2 hown2 hgrow2 _)
            go_roundw
            case rel => exact parts_step hlt hT hts hpl hSl HM.out HPE.out HKE.out HN.out rfl HOW.out HBE.out HB7.out _ _ hown2 hgrow2
            case measure => simp [intOf]; omega
          · obtain ⟨K, hK⟩ : ∃ K : Int, ((pcK x : Nat) : Int) = K := ⟨_, rfl⟩
            have HN := Lib.hid (show ((pcN x y : Nat) : Int) = 0 by rw [hn]; rfl)
            have HKE := Lib.hid hK
            rw [hK] at hk
            rw [HKE.out]
            clear hK hn HKN
            go_wp2_with (at_builtin; refine wpList_append_own _ rfl (.tmp 59) (.tmp 61) 23 rfl w0.heap.size 37 i0 (.agg #[.int .i64 0, .string ⟨#[]⟩, .int .i64 0, .int .i64 0]) 4 40 Try.underlying23 HI.out HZ0.out HZ1.out HZ2.out rfl (by decide) _ _ _ rfl ((HO7.out.alloc _).alloc _) ⟨w7.heap.size + 1, 0, none⟩ 1 1 [.int .i64 K, .string P, .int .i64 0, .int .i64 (T.size : Nat)] rfl rfl (new4' _ _ (by simp) _ _ _ _ _) (one4 _ _ _ _) (by unfold maxLen; omega) (by omega) (by simp; omega) ?_; intro v' w2 hown2 hgrow2 _)
            go_roundw
            case rel => exact parts_step hlt hT hts hpl hSl HM.out HPE.out HKE.out HN.out rfl HOW.out HBE.out HB7.out _ _ hown2 hgrow2
            case measure => simp [intOf]; omega
        · have d1 : decide ((i : Int) + 1 < (len : Int)) = false := by simp; omega
          have HAL := Lib.hid (HBr.out.all (by omega))
          have Q := Lib.hid (eqFlt_self 0 0)
          go_wp2_with (at_builtin; refine wpList_append_own _ rfl (.tmp 68) (.tmp 72) 23 rfl w0.heap.size 37 i0 (.agg #[.int .i64 0, .string ⟨#[]⟩, .int .i64 0, .int .i64 0]) 4 40 Try.underlying23 HI.out HZ0.out HZ1.out HZ2.out rfl (by decide) _ _ _ rfl (HOW.out.alloc _) ⟨wr.heap.size, 0, none⟩ 1 1 [.int .i64 4, .string ⟨#[]⟩, .int .i64 0, .int .i64 (T.size : Nat)] rfl rfl (new4' _ _ rfl _ _ _ _ _) (one4 _ _ _ _) (by unfold maxLen; omega) (by omega) (by simp; omega) ?_; intro v' w2 hown2 hgrow2 _)
          have hb2 : Below w0.heap.size w0 w2 := (HBE.out.alloc hsz _).grown hgrow2 (by simp; omega) (fun k hk => (HOW.out.lt k hk).1)
          have hown3 : Own w2 w0.heap.size v' (ts ++ [⟨4, [], 0, T.size⟩]) := own_snoc hown2 rfl rfl rfl rfl
          have hsz0 := HB0.out.size
          have HE2 := Lib.hid (HB0.out.trans (hb2.mono hsz0))
          have HO3 := Lib.hid hown3
          clear hb2 hown3 hown2 hgrow2
          with_reducible refine (lex_ok T _ _ HAL.out).mono ?_
          rintro e w3 ⟨v3, rfl, ho3, hb3⟩
          have hsz2 := HE2.out.size
          have HE3 := Lib.hid (HE2.out.trans (hb3.mono hsz2))
          have hsz3 := HE3.out.size
          have HO4 := Lib.hid (own_below HO3.out hb3)
          have HO5 := Lib.hid ho3
          clear hb3 ho3
          have q := Q.out
          go_wp2_with fail
          with_reducible refine (same_any v3 v' _ _ _ _ (HO5.out.alloc _) (HO4.out.alloc _)).mono ?_
          rintro e w4 ⟨rfl, nd, rfl⟩
          go_wp2_with fail
          go_ret
          exact ⟨rfl, below_drewN (HE3.out.alloc hsz3 _) nd⟩
  · have e1 : decide ((60 : Int) < (len : Int)) = true := by simp; omega
    go_enter Try.func4, Try.ntmps4
    go_wp2_with fail
    with_reducible refine (begun_any _).mono ?_
    rintro e w0 ⟨rfl, hb0⟩
    go_wp2_with fail
    go_ret
    exact ⟨rfl, hb0⟩
end Go.Proofs.Ytlnhhfmgciaaeaa.Lx
