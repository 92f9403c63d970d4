/-
  block of the document's cursor: a contract.
-/
import Derived.Test.YtikihomablmcnaaQStmt
namespace Go.Proofs.Ytikihomablmcnaa.Lx
open Go.RowKit
open L (Tok)
open P (EX CO ST Gl nextR)
set_option maxRecDepth 100000
set_option linter.unusedVariables false
set_option linter.unusedSimpArgs false
theorem closeC {stmt : List Tok → P.Res (ST × List Nat)} {r : P.Res (List ST × List Nat)} (h : ∀ a ts, r = .ok (a, ts) → P.isS [125] ts = true) : Gl (P.stmtsT stmt) r = P.closeF r := by
  rcases r with p | ⟨⟨es, qs⟩, ts⟩
  · rfl
  · have hh := h _ ts rfl
    show P.glue es qs (P.stmtsL stmt ts.length ts) = _
    cases ts with
    | nil => cases hh
    | cons t r2 =>
      show P.glue es qs (P.stmtsL stmt (r2.length + 1) (t :: r2)) = _
      unfold P.stmtsL P.closeF P.need
      rw [if_pos hh]
      simp only [if_pos hh]
      simp [P.glue]
theorem Mc.isSs {tot : List Tok → P.Res (List ST × List Nat)} {C g cap base : Nat} {TS : List Tok} {pv : Value} {ps : List Nat} {st : Sta} {w : World} {l : Value} {wr : World} {pvj : Value} {psj : List Nat} {m : Nat} {vals : List Value} {es : List ST} {qs : List Nat} {ts : List Tok}
    (h : Mc 7 agg LS 62 tot C g cap base TS pv ps st w l wr pvj psj m vals (.ok ((es, qs), ts))) : IsSs (Nw w.heap.size pvj) wr l es := by
  obtain ⟨h1, rfl, h3⟩ := h.live es qs ts rfl
  have hm := own_max h.own
  by_cases h0 : es = []
  · obtain ⟨a, c, rfl⟩ := slice_of_own h.own
    exact ⟨a, c, rfl, hm, .inl h0⟩
  · obtain ⟨gl, cap2, rfl, hgb, hgl⟩ := h.own.form (by cases es with
      | nil => exact absurd rfl h0
      | cons x xs => simp)
    refine ⟨_, cap2, rfl, hm, .inr ⟨gl, 0, rfl, ⟨hgb, own_types h.own h.pl (by decide) gl rfl⟩, ?_⟩⟩
    exact LSs.mono (fun b hb _ => ⟨hb.1, hb.2.1⟩) es (rowsS es vals 0 h3 (own_cells h.own))
set_option maxHeartbeats 6400000 in
theorem block_c (n : Nat) (C g cap base : Nat) (TS : List Tok) (pv : Value) (ps : List Nat) (st : Sta) (w : World) (h : Cs w C g cap TS pv st) (hp : OwnP w base pv ps) (hg : g < base) (hbase : base ≤ w.heap.size) (hn : ps.length + slen st ≤ 50000)
    (hOne : ∀ ts pv ps w, Cs w C g cap TS pv (.ok ts) → OwnP w base pv ps → base ≤ w.heap.size → ps.length + ts.length ≤ 50000 → ts.length ≤ slen st → Calls Try.prog 67 #[.pointer (some ⟨C, 0, none⟩)] w (PtC LS AnyS C g cap base TS pv ps ts.length (P.stmtN n ts) w)) :
    Calls Try.prog 38 #[.pointer (some ⟨C, 0, none⟩)] w (PtC IsSs AnySl C g cap base TS pv ps (slen st) (on st (P.blockF (P.stmtN n))) w) := by
  obtain ⟨i0, hi, hz0, hz1, hz2⟩ := info_parts Try.infoSt
  have HI := Lib.hid hi
  have HZ0 := Lib.hid hz0
  have HZ1 := Lib.hid hz1
  have HZ2 := Lib.hid hz2
  clear hi hz0 hz1 hz2
  obtain ⟨hCl, hgl⟩ := h.lts
  have hsn := slen_need [123] st
  have H0 := Lib.hid (Cq.start h hp)
  have HE := Lib.hid (block_eq (n := n) st)
  have HOne := Lib.hid hOne
  have hsl := h.slen
  clear h hp hOne
  go_enter Try.func38, Try.ntmps38
  go_wp2_with fail
  with_reducible refine (need_c C g cap TS pv st ⟨#[123]⟩ _ H0.out.dc).mono ?_
  rintro e w1 ⟨rfl, hd1, ho1⟩
  have H1 := Lib.hid (H0.out.call (st2 := onNeed [123] st) ho1 hd1)
  have HO1 := Lib.hid (ho1.mono (S' := Pb C pv) fun k hk => .inl hk)
  have hs1 := ho1.size
  have HS0 := Lib.hid (Mc.start (sz := 7) (mk := agg) (Val := LS) (ty := 62) (tot := P.stmtsT (P.stmtN n)) H1.out.dc H1.out.own)
  clear hd1 ho1
  go_wp2_with fail
  go_loopw [3] (fun l wr => ∃ pvj psj m vals r, Mc 7 agg LS 62 (P.stmtsT (P.stmtN n)) C g cap base TS pv ps (onNeed [123] st) w1 l wr pvj psj m vals r) (fun _ wr => qAt TS.length C wr)
  case atStart => exact ⟨_, _, _, _, _, HS0.out⟩
  case round =>
    obtain ⟨pvj, psj, m, vals, r, hM⟩ := hrel
    have HM := Lib.hid hM
    have HLN := Lib.hid hM.dc.qAt
    have hsz := hM.only.size
    have hcnt := hM.cnt
    have hbnd := hM.bound
    obtain ⟨a, c, rfl⟩ := slice_of_own hM.own
    obtain ⟨bad, hbd, hb1, hb2, _⟩ := hM.dc.bad
    clear hM
    rcases r with q | ⟨⟨es, qs⟩, ts⟩
    · have hbn := hb2 ⟨q, rfl⟩
      have hdd : decide (bad < 0) = false := by simp; omega
      clear hb1 hb2 hbn
      have HD9 := Lib.hid HM.out.dc
      have HP9 := Lib.hid HM.out.pl
      have HO9 := Lib.hid HM.out.only
      have HX9 := Lib.hid (show ∀ a ts, (.error q : P.Res (List ST × List Nat)) = .ok (a, ts) → P.isS [125] ts = true from fun _ _ h => by cases h)
      go_wp2_with fail
      with_reducible refine (need_c C g cap TS pvj (left (.error q : P.Res (List ST × List Nat))) ⟨#[125]⟩ _ HD9.out).mono ?_
      rintro e w9 ⟨rfl, hd, ho⟩
      have HD10 : Hid (Cs w9 C g cap TS pvj (onNeed [125] (left (.error q : P.Res (List ST × List Nat))))) := Lib.hid hd
      have HO10 := Lib.hid ho
      have hs9 := ho.size
      clear hd ho
      go_wp2_with fail
      go_ret
      have hC : ∀ k, pvj.ownBlock = some k → k ≠ C := by
        intro k hk e
        subst e
        obtain ⟨cs0, hb⟩ := HD9.out.blk
        exact own_ne (t' := 65) HP9.out hb (by decide) hk
      have hEQ : on st (P.blockF (P.stmtN n)) = P.closeF (.error q : P.Res (List ST × List Nat)) := by rw [HE.out, HM.out.sum, closeC HX9.out]
      refine ⟨_, pvj, psj, rfl, ⟨_, _, _, rfl⟩, ?_, own_only HP9.out HO10.out (fun k hk e => hC k hk e), ?_, (HO1.out.trans HO9.out).then HO10.out (fun j hj => .inl (.inl hj)), ?_, ?_⟩
      · rw [hEQ, close_left]
        exact HD10.out
      · rw [hEQ, close_left]
        have h1 := slen_need [125] (left (.error q : P.Res (List ST × List Nat)))
        have h2 := HM.out.bound
        omega
      · intro k hk
        rcases HM.out.fr k hk with h1 | h1
        · exact .inl h1
        · exact .inr (by omega)
      · intro es' qs' ts' hh
        rw [hEQ] at hh
        obtain ⟨t1, h1⟩ := close_ok hh
        refine ⟨?_, ?_⟩
        · cases h1
        · cases h1
    · obtain rfl : bad = -1 := hb1 ⟨ts, rfl⟩
      clear hb1 hb2
      go_wp2_with fail
      have hcall := is_c C g cap TS pvj (.ok ts) ⟨#[125]⟩ _ HM.out.dc
      with_reducible refine hcall.mono ?_
      rintro e w2 ⟨rfl, hb⟩
      clear hcall hbd
      rw [show by' (⟨#[125]⟩ : ByteArray) = [125] from rfl]
      have hs2 := hb.size
      cases hE : onIs [125] (.ok ts) with
      | true =>
        have HD9 := Lib.hid (HM.out.dc.below hb)
        have HP9 := Lib.hid (own_below HM.out.pl hb)
        have HO9' := Lib.hid (Only.of_below (S := fun _ => False) hb)
        have HO9 := Lib.hid (HM.out.only.then HO9'.out (fun _ e => e.elim))
        have HX9 := Lib.hid (show ∀ a t, (.ok ((es, qs), ts) : P.Res (List ST × List Nat)) = .ok (a, t) → P.isS [125] t = true from fun _ _ h => by cases h; exact hE)
        clear hb hE
        go_wp2_with fail
        with_reducible refine (need_c C g cap TS pvj (left (.ok ((es, qs), ts) : P.Res (List ST × List Nat))) ⟨#[125]⟩ _ HD9.out).mono ?_
        rintro e w9 ⟨rfl, hd, ho⟩
        have HD10 : Hid (Cs w9 C g cap TS pvj (onNeed [125] (left (.ok ((es, qs), ts) : P.Res (List ST × List Nat))))) := Lib.hid hd
        have HO10 := Lib.hid ho
        have hs9 := ho.size
        clear hd ho
        go_wp2_with fail
        go_ret
        have hC : ∀ k, pvj.ownBlock = some k → k ≠ C := by
          intro k hk e
          subst e
          obtain ⟨cs0, hb⟩ := HD9.out.blk
          exact own_ne (t' := 65) HP9.out hb (by decide) hk
        have hEQ : on st (P.blockF (P.stmtN n)) = P.closeF (.ok ((es, qs), ts) : P.Res (List ST × List Nat)) := by rw [HE.out, HM.out.sum, closeC HX9.out]
        refine ⟨_, pvj, psj, rfl, ⟨_, _, _, rfl⟩, ?_, own_only HP9.out HO10.out (fun k hk e => hC k hk e), ?_, (HO1.out.trans HO9.out).then HO10.out (fun j hj => .inl (.inl hj)), ?_, ?_⟩
        · rw [hEQ, close_left]
          exact HD10.out
        · rw [hEQ, close_left]
          have h1 := slen_need [125] (left (.ok ((es, qs), ts) : P.Res (List ST × List Nat)))
          have h2 := HM.out.bound
          omega
        · intro k hk
          rcases HM.out.fr k hk with h1 | h1
          · exact .inl h1
          · exact .inr (by omega)
        · intro es' qs' ts' hh
          rw [hEQ] at hh
          obtain ⟨t1, h1⟩ := close_ok hh
          refine ⟨?_, ?_⟩
          · cases h1
            exact (HM.out.live es qs ts rfl).1
          · cases h1
            exact IsSs.step (fun b hb hl => ⟨⟨by have := hb.1; omega, hb.2⟩, (HO10.out.block b (Nat.lt_of_lt_of_le hl HO9'.out.size) (by have := hb.1; omega)).trans (HO9'.out.block b hl id)⟩) HM.out.isSs
      | false =>
        have hM1 : Mc 7 agg LS 62 (P.stmtsT (P.stmtN n)) C g cap base TS pv ps (onNeed [123] st) w1 (.slice a m c) w2 pvj psj m vals (.ok ((es, qs), ts)) := ⟨own_below HM.out.own hb, HM.out.dc.below hb, own_below HM.out.pl hb, HM.out.bound, HM.out.cnt, HM.out.only.then (S' := fun _ => False) (Only.of_below hb) (fun _ e => e.elim), HM.out.fr, HM.out.sum, fun es' qs' ts' hh => by
          obtain ⟨x1, x2, x3⟩ := HM.out.live es' qs' ts' hh
          exact ⟨x1, x2, RowsV.step 7 agg LS lsStep (fun b hb' hl => ⟨hb', hb.block b hl⟩) _ _ x3⟩⟩
        have HM1 := Lib.hid hM1
        have ets : slen (left (.ok ((es, qs), ts) : P.Res (List ST × List Nat))) = ts.length := rfl
        have HO := Lib.hid (HOne.out ts pvj psj w2 hM1.dc hM1.pl (by omega) (by omega) (by omega))
        have hlive : 0 < ts.length := hM1.dc.live
        have HTT := Lib.hid (P.stmtsT_more (P.stmtN_less n) (P.stmtN_nil n) hlive hE)
        rw [ets] at hcnt hbnd HLN
        clear hM1 HM hb hE ets
        go_wp2_with fail
        with_reducible refine HO.out.mono ?_
        rintro e w3 ⟨v, pv1, ps1, rfl, ⟨k, md, rg, lc, a1, n1, c1, a2, n2, c2, a3, n3, c3, rfl⟩, hd2, hp2, hbd2, ho2, hf2, hv2⟩
        have HST := Lib.hid (fun (w3 : World) (o : Obj) (g2 cap2 : Nat) hgr how hat => Mc.step (one := P.stmtN n ts) (w2 := w3) (o := o) (g2 := g2) (cap2 := cap2) (cs := [.int .i64 k, .int .i64 md, .string rg, .string lc, .slice a1 n1 c1, .slice a2 n2 c2, .slice a3 n3 c3]) lsStep (by decide) (by omega) (by omega) HM1.out HTT.out (fun a r hh => P.stmtN_less n _ _ _ hh) rfl hd2 hp2 hbd2 ho2 hf2 hv2 hgr how hat)
        have hs3 := ho2.size
        have hown2 := own_only HM1.out.own ho2 (by
          intro k hk
          rintro (e | e)
          · have := (HM1.out.own.lt k hk).1
            omega
          · exact own_types HM1.out.own HM1.out.pl (by decide) k hk e)
        clear hd2 hp2 hbd2 ho2 hf2 hv2
        go_wp2_with (at_builtin; refine wpList_append_lies _ rfl (.tmp 16) (.tmp 19) 56 rfl w1.heap.size 62 i0 (.agg #[.int .i64 0, .int .i64 0, .string ⟨#[]⟩, .string ⟨#[]⟩, .slice none 0 0, .slice none 0 0, .slice none 0 0]) 7 120 Try.underlying56 HI.out HZ0.out HZ1.out HZ2.out rfl (by decide) (.slice a m c) m vals rfl (hown2.alloc _) ⟨w3.heap.size, 0, none⟩ 1 1 [.int .i64 k, .int .i64 md, .string rg, .string lc, .slice a1 n1 c1, .slice a2 n2 c2, .slice a3 n3 c3] rfl rfl (seven_new _ _ _ _ _ _ _ _ _ _ _ _ _ _ _) (seven_one _ _ _ _ _ _ _ _ _ _ _ _ _) (by decide) (by unfold maxLen; omega) (by omega) (by simp; omega) (w3.heap.size + 1) (by simp) ?_; intro g3 c3' w4 hown3 hgrow3 hat3 hlt3)
        have HN := Lib.hid (HST.out w4 _ g3 c3' hgrow3 hown3 hat3)
        clear hown3 hgrow3 hat3
        go_wp2_with fail
        go_roundw
        case rel => exact ⟨_, _, _, _, _, HN.out.1⟩
        case measure =>
          rw [HN.out.1.dc.qAt, HLN.out]
          exact HN.out.2
theorem stmtN_c (C g cap base : Nat) (TS : List Tok) (hg : g < base) : ∀ (n : Nat) (ts : List Tok) (pv : Value) (ps : List Nat) (w : World), ts.length ≤ n → Cs w C g cap TS pv (.ok ts) → OwnP w base pv ps → base ≤ w.heap.size → ps.length + ts.length ≤ 50000 →
    Calls Try.prog 67 #[.pointer (some ⟨C, 0, none⟩)] w (PtC LS AnyS C g cap base TS pv ps ts.length (P.stmtN n ts) w)
  | 0, ts, pv, ps, w, hl, h, hp, hbase, hn => by
    have := h.live
    omega
  | n + 1, ts, pv, ps, w, hl, h, hp, hbase, hn => stmt_c n C g cap base TS pv ps ts w h hp hg hbase hn fun st' pv ps w h1 h2 h3 h4 h5 => block_c n C g cap base TS pv ps st' w h1 h2 hg h3 h4 fun ts' pv' ps' w' k1 k3 k4 k5 k6 => stmtN_c C g cap base TS hg n ts' pv' ps' w' (by omega) k1 k3 k4 k5
theorem blockTot_c (C g cap base : Nat) (TS : List Tok) (pv : Value) (ps : List Nat) (st : Sta) (w : World) (h : Cs w C g cap TS pv st) (hp : OwnP w base pv ps) (hg : g < base) (hbase : base ≤ w.heap.size) (hn : ps.length + slen st ≤ 50000) :
    Calls Try.prog 38 #[.pointer (some ⟨C, 0, none⟩)] w (PtC IsSs AnySl C g cap base TS pv ps (slen st) (on st P.pBlock) w) := by
  have hb := block_c (slen st) C g cap base TS pv ps st w h hp hg hbase hn fun ts' pv' ps' w' k1 k3 k4 k5 k6 => stmtN_c C g cap base TS hg _ ts' pv' ps' w' (by omega) k1 k3 k4 k5
  rcases st with q | ts
  · exact hb
  · exact hb
end Go.Proofs.Ytikihomablmcnaa.Lx
