/-
  stmt of the document's cursor: a contract.
-/
import Derived.Test.YtikihomablmcnaaQBase
import Derived.Deep.DeepCutAuto
namespace Go.Proofs.Ytikihomablmcnaa.Lx
open Go.RowKit
open L (Tok)
open P (EX CO ST)
set_option maxRecDepth 100000
set_option linter.unusedVariables false
set_option linter.unusedSimpArgs false
/-- What stands behind the place that is kept: the cursor, two blocks as they were. -/
def PartC (w w1 : World) (R B : Nat) (t : TypeId) (zs : Array Value) (C g cap base : Nat) (TS : List Tok) (pv : Value) (ps : List Nat) (st : Sta) (wx : World) : Prop :=
  ∃ pv2, Cq w wx C g cap base TS pv pv2 ps st ∧ Blk wx R t zs ∧ Blk wx B t zs ∧ w1.heap.size ≤ wx.heap.size
theorem left_not {α : Type} {r : P.Res α} {q : Nat} (h : left r = .error q) {a : α} {ts : List Tok} (hh : r = .ok (a, ts)) : False := by
  subst hh
  cases h
theorem sev0 {w : World} {R : Nat} {t : TypeId} {a b c d e f h : Value} (hh : Blk w R t #[a, b, c, d, e, f, h]) (u : Value) : Blk (w.setCell ⟨R, 0, none⟩ u) R t #[u, b, c, d, e, f, h] := hh.set 0 u
theorem sev1 {w : World} {R : Nat} {t : TypeId} {a b c d e f h : Value} (hh : Blk w R t #[a, b, c, d, e, f, h]) (u : Value) : Blk (w.setCell ⟨R, 1, none⟩ u) R t #[a, u, c, d, e, f, h] := hh.set 1 u
theorem sev2 {w : World} {R : Nat} {t : TypeId} {a b c d e f h : Value} (hh : Blk w R t #[a, b, c, d, e, f, h]) (u : Value) : Blk (w.setCell ⟨R, 2, none⟩ u) R t #[a, b, u, d, e, f, h] := hh.set 2 u
theorem sev3 {w : World} {R : Nat} {t : TypeId} {a b c d e f h : Value} (hh : Blk w R t #[a, b, c, d, e, f, h]) (u : Value) : Blk (w.setCell ⟨R, 3, none⟩ u) R t #[a, b, c, u, e, f, h] := hh.set 3 u
theorem sev4 {w : World} {R : Nat} {t : TypeId} {a b c d e f h : Value} (hh : Blk w R t #[a, b, c, d, e, f, h]) (u : Value) : Blk (w.setCell ⟨R, 4, none⟩ u) R t #[a, b, c, d, u, f, h] := hh.set 4 u
theorem sev5 {w : World} {R : Nat} {t : TypeId} {a b c d e f h : Value} (hh : Blk w R t #[a, b, c, d, e, f, h]) (u : Value) : Blk (w.setCell ⟨R, 5, none⟩ u) R t #[a, b, c, d, e, u, h] := hh.set 5 u
theorem sev6 {w : World} {R : Nat} {t : TypeId} {a b c d e f h : Value} (hh : Blk w R t #[a, b, c, d, e, f, h]) (u : Value) : Blk (w.setCell ⟨R, 6, none⟩ u) R t #[a, b, c, d, e, f, u] := hh.set 6 u
set_option maxHeartbeats 12800000 in
theorem stmt_c (n : Nat) (C g cap base : Nat) (TS : List Tok) (pv : Value) (ps : List Nat) (ts : List Tok) (w : World) (h : Cs w C g cap TS pv (.ok ts)) (hp : OwnP w base pv ps) (hg : g < base) (hbase : base ≤ w.heap.size) (hn : ps.length + ts.length ≤ 50000) (hBl : ∀ st' pv ps w, Cs w C g cap TS pv st' → OwnP w base pv ps → base ≤ w.heap.size → ps.length + slen st' ≤ 50000 → slen st' < ts.length → Calls Try.prog 38 #[.pointer (some ⟨C, 0, none⟩)] w (PtC IsSs AnySl C g cap base TS pv ps (slen st') (on st' (P.blockF (P.stmtN n))) w)) :
    Calls Try.prog 67 #[.pointer (some ⟨C, 0, none⟩)] w (PtC LS AnyS C g cap base TS pv ps ts.length (P.stmtN (n + 1) ts) w) := by
  obtain ⟨hCl, hgl⟩ := h.lts
  have hlive := h.live
  have hlt := slen_less (P.stmtN_less (n + 1)) hlive
  have H0 := Lib.hid (Cq.start h hp)
  have HBl := Lib.hid hBl
  obtain ⟨i0, hi, hz0, hz1, hz2⟩ := info_parts Try.infoInt
  have HI0 := Lib.hid hi
  have HZ0 := Lib.hid hz0
  have HZ1 := Lib.hid hz1
  have HZ2 := Lib.hid hz2
  clear hi hz0 hz1 hz2 h hp hBl
  go_enter Try.func67, Try.ntmps67
  go_upto_region 2 with (fail)
  have hbA : Below w.heap.size w ((w.alloc (.cells #[.int .i64 0, .int .i64 0, .string ⟨#[]⟩, .string ⟨#[]⟩, .slice none 0 0, .slice none 0 0, .slice none 0 0] 62)).alloc (.cells #[.int .i64 0, .int .i64 0, .string ⟨#[]⟩, .string ⟨#[]⟩, .slice none 0 0, .slice none 0 0, .slice none 0 0] 62)) := ((Below.refl _ _).alloc (Nat.le_refl _) _).alloc (by simp) _
  have HR1 := Lib.hid ((Blk.new w 62 #[.int .i64 0, .int .i64 0, .string ⟨#[]⟩, .string ⟨#[]⟩, .slice none 0 0, .slice none 0 0, .slice none 0 0]).alloc (.cells #[.int .i64 0, .int .i64 0, .string ⟨#[]⟩, .string ⟨#[]⟩, .slice none 0 0, .slice none 0 0, .slice none 0 0] 62))
  have hB0 := Blk.new (w.alloc (.cells #[.int .i64 0, .int .i64 0, .string ⟨#[]⟩, .string ⟨#[]⟩, .slice none 0 0, .slice none 0 0, .slice none 0 0] 62)) 62 #[.int .i64 0, .int .i64 0, .string ⟨#[]⟩, .string ⟨#[]⟩, .slice none 0 0, .slice none 0 0, .slice none 0 0]
  rw [show (w.alloc (.cells #[.int .i64 0, .int .i64 0, .string ⟨#[]⟩, .string ⟨#[]⟩, .slice none 0 0, .slice none 0 0, .slice none 0 0] 62)).heap.size = w.heap.size + 1 by simp] at hB0
  have HB1 := Lib.hid hB0
  have H1 := Lib.hid (H0.out.call (Only.of_below hbA) (H0.out.dc.below hbA))
  have hs1 : w.heap.size + 1 < ((w.alloc (.cells #[.int .i64 0, .int .i64 0, .string ⟨#[]⟩, .string ⟨#[]⟩, .slice none 0 0, .slice none 0 0, .slice none 0 0] 62)).alloc (.cells #[.int .i64 0, .int .i64 0, .string ⟨#[]⟩, .string ⟨#[]⟩, .slice none 0 0, .slice none 0 0, .slice none 0 0] 62)).heap.size := HB1.out.lt
  clear hbA hB0 H0
  generalize (w.alloc (.cells #[.int .i64 0, .int .i64 0, .string ⟨#[]⟩, .string ⟨#[]⟩, .slice none 0 0, .slice none 0 0, .slice none 0 0] 62)).alloc (.cells #[.int .i64 0, .int .i64 0, .string ⟨#[]⟩, .string ⟨#[]⟩, .slice none 0 0, .slice none 0 0, .slice none 0 0] 62) = w1 at *
  generalize hBe : w.heap.size + 1 = B at *
  generalize hSe : w.heap.size = R at *
  have hRw : w.heap.size ≤ R := by omega
  have hRw' : R ≤ w.heap.size := by omega
  have hRB : R < B := by omega
  clear hSe hBe
  go_cut [4] (fun s wx => PartC w w1 R B 62 #[.int .i64 0, .int .i64 0, .string ⟨#[]⟩, .string ⟨#[]⟩, .slice none 0 0, .slice none 0 0, .slice none 0 0] C g cap base TS pv (ps ++ [P.here ts]) (.ok ts) wx)
  case first =>
    obtain ⟨k, bad, t, hkl, hmx, hblk, ⟨t0, t1, t2, t3⟩, hst, hhere⟩ := H1.out.dc.tok
    obtain ⟨c0, c1, c2, c3, _, _, _, f3⟩ := four_free hblk
    have HCB := Lib.hid hblk
    have HH := Lib.hid (hhere ts rfl).1
    obtain ⟨tk, tx, tn, ta⟩ := t
    simp only at t0 t1 t2 t3
    clear c2 hst hhere t0 t1 t2 hblk
    have HOW := Lib.hid H1.out.own
    have HKP := Lib.hid (fun w2 wg g2 cp2 n x => H1.out.kept (w2 := w2) (wg := wg) (g2 := g2) (cp2 := cp2) (n := n) (x := x) hg)
    have HNE := Lib.hid (own_ne (t' := 65) H1.out.own HCB.out (by decide))
    have HNR := Lib.hid (H1.out.far HR1.out (by decide) (by decide))
    have HNB := Lib.hid (H1.out.far HB1.out (by decide) (by decide))
    obtain ⟨ap, cp, rfl⟩ := slice_of_own H1.out.own
    have m1 : (0 : Int) ≤ (k : Int) := by omega
    have m2 : (k : Int) < (TS.length : Int) := by omega
    have hCw : C < w1.heap.size := by omega
    have hCn : ¬ C = w1.heap.size := by omega
    go_region_law (first
      | (refine step_append_lies _ (by rfl) (.tmp 8) (.tmp 20) 35 (by rfl) base 3 i0 (.int .i64 0) 1 8 Try.underlying35 HI0.out HZ0.out HZ1.out HZ2.out rfl (by omega) _ ps.length (nums ps) (by rfl) (HOW.out.alloc _) ⟨w1.heap.size, 0, none⟩ 1 1 [.int .i64 (ta : Nat)] (by rfl) rfl (one_new w1 _ _) (one_one _) (by omega) (by unfold maxLen; omega) (by omega) (by simp; omega) (w1.heap.size + 1) (by simp) ?_; intro g2 cp2 w2 hown2 hgrow2 hat2 hlt2; have hB2 := (hgrow2.block C (by simp; omega) (fun e => HNE.out e.symm)).trans (HCB.out.alloc _); have d2 : w2.cell? ⟨C, 3, none⟩ = some _ := Blk.cell hB2 3; have e2 : w2.frozen? ⟨C, 3, none⟩ = false := Blk.free hB2 3))
    all_goals
      go_wp2_with fail
      go_meet
      case rel =>
        have hsz := hgrow2.size
        simp at hsz
        exact ⟨_, HKP.out _ _ _ _ _ _ (((Only.refl _ w1).alloc _).drew) hgrow2 hown2 (congrArg Int.ofNat HH.out) hat2, Blk.far ((hgrow2.block R (by simp; omega) (fun e => HNR.out (.inr e.symm))).trans (HR1.out.alloc _)) (fun e => HNR.out (.inl e)) _, Blk.far ((hgrow2.block B (by simp; omega) (fun e => HNB.out (.inr e.symm))).trans (HB1.out.alloc _)) (fun e => HNB.out (.inl e)) _, by simp; omega⟩
  case rest =>
    obtain ⟨pv2, hq2, hr2, hb2, hs2⟩ := hcut
    have H2 := Lib.hid hq2
    have HR2 := Lib.hid hr2
    have HB2 := Lib.hid hb2
    have hpl : (ps ++ [P.here ts]).length = ps.length + 1 := by simp
    clear hq2 hr2 hb2 H1 HR1 HB1 HI0 HZ0 HZ1 HZ2
    cases hS : P.isS [115, 116, 111, 114, 101] ts with
    | true =>
      have HS := Lib.hid (show onIs [115, 116, 111, 114, 101] (.ok ts) = true from hS)
      have HE := Lib.hid (P.stmt_store (n := n) hS)
      have HQ := Lib.hid (store_eq (tl (.ok ts)))
      clear hS
      go_wp2_with fail
      with_reducible refine (is_c C g cap TS pv2 (.ok ts) ⟨#[115, 116, 111, 114, 101]⟩ _ H2.out.dc).mono ?_
      rintro e w3 ⟨rfl, hb⟩
      rw [show by' (⟨#[115, 116, 111, 114, 101]⟩ : ByteArray) = [115, 116, 111, 114, 101] from rfl, HS.out]
      have HR3 := Lib.hid (HR2.out.live' hb)
      have HB3 := Lib.hid (HB2.out.live' hb)
      have H3 := Lib.hid (H2.out.call (Only.of_below hb) (H2.out.dc.below hb))
      have hs3 := hb.size
      clear hb HR2 HB2
      obtain ⟨kp4, x1, y1, hkp, hcs⟩ := H3.out.dc.past HS.out
      have HCS := Lib.hid hcs
      clear hcs
      obtain ⟨c0, c1, c2, c3, c4, c5, c6, f0, f1, f2, f3, f4, f5, f6⟩ := seven_free HB3.out
      go_wp2_with fail
      clear c0 c1 c2 c3 c4 c5 c6 f0 f1 f2 f3 f4 f5 f6
      clear x1 y1
      have HR4 := Lib.hid (HR3.out.only (only_at w3 C (.int .i64 ((kp4 : Int) + 1))) (fun e => H3.out.far HR3.out (by decide) (by decide) (.inl e)))
      have HB4 := Lib.hid (HB3.out.only (only_at w3 C (.int .i64 ((kp4 : Int) + 1))) (fun e => H3.out.far HB3.out (by decide) (by decide) (.inl e)))
      have H4 := Lib.hid (H3.out.call (only_at w3 C (.int .i64 ((kp4 : Int) + 1))) HCS.out)
      have hs4 := (only_at w3 C (.int .i64 ((kp4 : Int) + 1))).size
      clear HR3 HB3 HCS
      generalize w3.setCell ⟨C, 1, none⟩ (.int .i64 ((kp4 : Int) + 1)) = w4 at *
      have HR5 := Lib.hid (HR4.out.only (only_set w4 B 0 (.int .i64 3)) (by omega))
      have H5 := Lib.hid (H4.out.put (t := 62) (by decide) (by decide) (by omega) (by omega) HB4.out 0 (.int .i64 3))
      have HB5 := Lib.hid (sev0 HB4.out (.int .i64 3))
      have hs5 := (only_set w4 B 0 (.int .i64 3)).size
      clear HR4 HB4
      generalize w4.setCell ⟨B, 0, none⟩ (.int .i64 3) = w5 at *
      with_reducible refine (mode_c C g cap TS pv2 (tl (.ok ts)) _ H5.out.dc).mono ?_
      rintro e w6 ⟨v, rfl, ⟨m, rfl⟩, hd, ho, hm⟩
      have HR6 := Lib.hid (HR5.out.only ho (fun e => H5.out.far HR5.out (by decide) (by decide) (.inl e)))
      have HB6 := Lib.hid (HB5.out.only ho (fun e => H5.out.far HB5.out (by decide) (by decide) (.inl e)))
      have H6 := Lib.hid (H5.out.call (st2 := left (on (tl (.ok ts)) P.pMode)) ho hd)
      have hs6 := ho.size
      have HM := Lib.hid hm
      clear hm
      clear hd ho HR5 HB5
      obtain ⟨c0, c1, c2, c3, c4, c5, c6, f0, f1, f2, f3, f4, f5, f6⟩ := seven_free HB6.out
      go_wp2_with fail
      clear c0 c1 c2 c3 c4 c5 c6 f0 f1 f2 f3 f4 f5 f6
      have HR7 := Lib.hid (HR6.out.only (only_set w6 B 1 (.int .i64 m)) (by omega))
      have H7 := Lib.hid (H6.out.put (t := 62) (by decide) (by decide) (by omega) (by omega) HB6.out 1 (.int .i64 m))
      have HB7 := Lib.hid (sev1 HB6.out (.int .i64 m))
      have hs7 := (only_set w6 B 1 (.int .i64 m)).size
      clear HR6 HB6
      generalize w6.setCell ⟨B, 1, none⟩ (.int .i64 m) = w7 at *
      with_reducible refine (name_c C g cap TS pv2 _ _ H7.out.dc).mono ?_
      rintro e w8 ⟨v, rfl, ⟨l, rfl⟩, hd, ho, hm⟩
      have HR8 := Lib.hid (HR7.out.only ho (fun e => H7.out.far HR7.out (by decide) (by decide) (.inl e)))
      have HB8 := Lib.hid (HB7.out.only ho (fun e => H7.out.far HB7.out (by decide) (by decide) (.inl e)))
      have H8 := Lib.hid (H7.out.call (st2 := left (on (left (on (tl (.ok ts)) P.pMode)) P.pName)) ho hd)
      have hs8 := ho.size
      have HN := Lib.hid hm
      clear hm
      clear hd ho HR7 HB7
      obtain ⟨c0, c1, c2, c3, c4, c5, c6, f0, f1, f2, f3, f4, f5, f6⟩ := seven_free HB8.out
      go_upto_region 12 with (fail)
      clear c0 c1 c2 c3 c4 c5 c6 f0 f1 f2 f3 f4 f5 f6
      have HR9 := Lib.hid (HR8.out.only (only_set w8 B 3 (.string l)) (by omega))
      have H9 := Lib.hid (H8.out.put (t := 62) (by decide) (by decide) (by omega) (by omega) HB8.out 3 (.string l))
      have HB9 := Lib.hid (sev3 HB8.out (.string l))
      have hs9 := (only_set w8 B 3 (.string l)).size
      clear HR8 HB8
      generalize w8.setCell ⟨B, 3, none⟩ (.string l) = w9 at *
      have HAC := Lib.hid (acc_eq (tl (.ok ts)))
      have H10 := Lib.hid (show Cq w w9 C g cap base TS pv pv2 (ps ++ [P.here ts]) (left (on (tl (.ok ts)) accF)) by rw [HAC.out.1]; exact H9.out)
      have HR10 := HR9
      have HB10 := HB9
      obtain ⟨bad, hbd, hb1, hb2, _⟩ := H10.out.dc.bad
      have w10e : w9.heap.size ≤ w9.heap.size := Nat.le_refl _
      cases hz : left (on (tl (.ok ts)) accF) with
      | error q =>
        have hbn := hb2 ⟨q, hz⟩
        have hdd : decide (bad < 0) = false := by simp; omega
        have HZ := Lib.hid hz
        have HQL := Lib.hid (show left (P.storeF ts.tail) = .error q by
          have h1 := HQ.out.1
          rw [hz] at h1
          exact h1)
        rw [hz] at H10
        clear hz hb1 hb2 hbn
        go_wp2_with fail
        clear hbd hdd
        with_reducible refine (need_c C g cap TS pv2 (.error q) ⟨#[59]⟩ _ H10.out.dc).mono ?_
        rintro e w10 ⟨rfl, hd, ho⟩
        have HR10 := Lib.hid (HR9.out.only ho (fun e => H9.out.far HR9.out (by decide) (by decide) (.inl e)))
        have HB10 := Lib.hid (HB9.out.only ho (fun e => H9.out.far HB9.out (by decide) (by decide) (.inl e)))
        have H10 := Lib.hid (H10.out.call (st2 := onNeed [59] (.error q)) ho hd)
        have hs10 := ho.size
        have HKP := Lib.hid ho
        clear hd ho HR9 HB9
        obtain ⟨c0, c1, c2, c3, c4, c5, c6, f0, f1, f2, f3, f4, f5, f6⟩ := seven_free HB10.out
        obtain ⟨z0, z1, z2, z3, z4, z5, z6, o0, o1, o2, o3, o4, o5, o6⟩ := seven_free HR10.out
        go_wp2_with fail
        refine bodyPost_ret (results_cell_row (p := 2) rfl _ _ R 62 #[.int .i64 3, .int .i64 m, .string ⟨#[]⟩, .string l, .slice none 0 0, .slice none 0 0, .slice none 0 0] (0, 0) _ rfl (put7 HR10.out) Try.underlying62 rfl (by kernel_rfl)) rfl ?_
        refine stmt_done_c H10.out (by rw [HE.out, semi_left, HQL.out]) HR10.out (by omega) (by omega) (by rw [hpl]; omega) ⟨_, _, _, _, _, _, _, _, _, _, _, _, _, rfl⟩ fun s qs t hh => ?_
        rw [HE.out] at hh
        obtain ⟨⟨t1, hx⟩, rfl⟩ := P.semi_ok hh
        exact (left_not HQL.out hx).elim
      | ok t2 =>
        obtain rfl : bad = -1 := hb1 ⟨t2, hz⟩
        have HZ := Lib.hid hz
        have HQ2 := Lib.hid HQ.out
        rw [hz] at H10 HQ2
        clear hz hb1 hb2
        go_wp2_with fail
        clear hbd
        with_reducible refine (expr_c C g cap TS pv2 (.ok t2) _ H10.out.dc).mono ?_
        rintro e w10 ⟨v, rfl, ⟨ox, mx, sx, ax, nx, cx, rfl⟩, hd, ho, hx⟩
        have HR10 := Lib.hid (HR9.out.only ho (fun e => H9.out.far HR9.out (by decide) (by decide) (.inl e)))
        have HB10 := Lib.hid (HB9.out.only ho (fun e => H9.out.far HB9.out (by decide) (by decide) (.inl e)))
        have H10 := Lib.hid (H10.out.call (st2 := left (P.pExpr t2)) ho hd)
        have hs10 := ho.size
        have HX := Lib.hid hx
        clear hx
        clear hd ho HR9 HB9
        obtain ⟨c0, c1, c2, c3, c4, c5, c6, f0, f1, f2, f3, f4, f5, f6⟩ := seven_free HB10.out
        have hRl : B < w10.heap.size := HB10.out.lt
        have HPB := Lib.hid (fun b hb => (H9.out.own.lt b hb).2)
        go_wp2_with fail
        clear c0 c1 c2 c3 c4 c5 c6 f0 f1 f2 f3 f4 f5 f6
        have hbA : Below w10.heap.size (w10.setCell ⟨B, 4, none⟩ (.slice (some ⟨w10.heap.size, 0, none⟩) 1 1)) ((w10.setCell ⟨B, 4, none⟩ (.slice (some ⟨w10.heap.size, 0, none⟩) 1 1)).alloc (.cells #[.int .i64 ox, .int .i64 mx, .string sx, .slice ax nx cx] 93)) := (Below.refl _ _).alloc (by simp) _
        have hbs : (w10.setCell ⟨B, 4, none⟩ (.slice (some ⟨w10.heap.size, 0, none⟩) 1 1)).heap.size = w10.heap.size := by simp
        have H11' := H10.out.put (t := 62) (by decide) (by decide) (by omega) (by omega) HB10.out 4 (.slice (some ⟨w10.heap.size, 0, none⟩) 1 1)
        have H11 := Lib.hid (H11'.call (Only.of_below (by rw [hbs]; exact hbA)) (H11'.dc.below (by rw [hbs]; exact hbA)))
        have HB11 := Lib.hid ((sev4 HB10.out (.slice (some ⟨w10.heap.size, 0, none⟩) 1 1)).alloc (.cells #[.int .i64 ox, .int .i64 mx, .string sx, .slice ax nx cx] 93))
        have HR11 := Lib.hid ((HR10.out.only (only_set w10 B 4 (.slice (some ⟨w10.heap.size, 0, none⟩) 1 1)) (by omega)).alloc (.cells #[.int .i64 ox, .int .i64 mx, .string sx, .slice ax nx cx] 93))
        have HX8 := Lib.hid (fun x ts hh => lxs_one (Q := NwB R pv2 B R) (arg_blk w10 B (.slice (some ⟨w10.heap.size, 0, none⟩) 1 1) #[.int .i64 ox, .int .i64 mx, .string sx, .slice ax nx cx]) (arg_keep (LX.mono (fun b hb _ => ⟨by unfold From at hb; omega, fun e => by have := HPB.out b e; unfold From at hb; omega, by unfold From at hb; omega, by unfold From at hb; omega⟩) _ (HX.out x ts hh)) (fun hq => hq.2.2.1 rfl) (.slice (some ⟨w10.heap.size, 0, none⟩) 1 1) (.cells #[.int .i64 ox, .int .i64 mx, .string sx, .slice ax nx cx] 93)))
        have HQK := Lib.hid (show NwB R pv2 B R w10.heap.size from ⟨by omega, fun e => by have := HPB.out _ e; omega, by omega, by omega⟩)
        have hs11 : w10.heap.size < ((w10.setCell ⟨B, 4, none⟩ (.slice (some ⟨w10.heap.size, 0, none⟩) 1 1)).alloc (.cells #[.int .i64 ox, .int .i64 mx, .string sx, .slice ax nx cx] 93)).heap.size := by simp
        clear H11' hbA hbs HX HR10 HB10
        generalize (w10.setCell ⟨B, 4, none⟩ (.slice (some ⟨w10.heap.size, 0, none⟩) 1 1)).alloc (.cells #[.int .i64 ox, .int .i64 mx, .string sx, .slice ax nx cx] 93) = w11 at *
        generalize hKe : w10.heap.size = K at *
        have hKw : K ≤ w10.heap.size := by omega
        have hKw' : w10.heap.size ≤ K := by omega
        clear hKe
        with_reducible refine (need_c C g cap TS pv2 (left (P.pExpr t2)) ⟨#[59]⟩ _ H11.out.dc).mono ?_
        rintro e w12 ⟨rfl, hd, ho⟩
        have HR12 := Lib.hid (HR11.out.only ho (fun e => H11.out.far HR11.out (by decide) (by decide) (.inl e)))
        have HB12 := Lib.hid (HB11.out.only ho (fun e => H11.out.far HB11.out (by decide) (by decide) (.inl e)))
        have H12 := Lib.hid (H11.out.call (st2 := onNeed [59] (left (P.pExpr t2))) ho hd)
        have hs12 := ho.size
        have HKP := Lib.hid ho
        clear hd ho HR11 HB11
        obtain ⟨c0, c1, c2, c3, c4, c5, c6, f0, f1, f2, f3, f4, f5, f6⟩ := seven_free HB12.out
        obtain ⟨z0, z1, z2, z3, z4, z5, z6, o0, o1, o2, o3, o4, o5, o6⟩ := seven_free HR12.out
        go_wp2_with fail
        refine bodyPost_ret (results_cell_row (p := 2) rfl _ _ R 62 #[.int .i64 3, .int .i64 m, .string ⟨#[]⟩, .string l, .slice (some ⟨K, 0, none⟩) 1 1, .slice none 0 0, .slice none 0 0] (0, 0) _ rfl (put7 HR12.out) Try.underlying62 rfl (by kernel_rfl)) rfl ?_
        refine stmt_done_c H12.out (by rw [HE.out, semi_left]; exact congrArg (onNeed [59]) HQ2.out.1) HR12.out (by omega) (by omega) (by rw [hpl]; omega) ⟨_, _, _, _, _, _, _, _, _, _, _, _, _, rfl⟩ fun s qs t hh => ?_
        rw [HE.out] at hh
        obtain ⟨⟨t1, hx⟩, rfl⟩ := P.semi_ok hh
        refine ⟨rfl, ?_⟩
        obtain ⟨m', l', r, x, h1, h2, rfl⟩ := HQ2.out.2 s t1 hx
        obtain ⟨⟨r1, hm1⟩, hn1⟩ := HAC.out.2 m' l' r h1
        have e1 := HM.out m' r1 hm1
        injection e1 with _ e1
        have e2 := HN.out l' r hn1
        injection e2 with e2
        subst e1
        subst e2
        obtain ⟨hk, hxs⟩ := LXs.step (same_callC (B := B) (R := R) (n := R) hCl HKP.out) HQK.out (by simp) (HX8.out x t1 h2)
        exact LS.mono (fun b hb _ => ⟨⟨by have := hb.1; omega, hb.2.1⟩, hb.2.2.2⟩) _ (ls_args (by simp) hk hxs)
    | false =>
      cases hF : P.isS [102, 101, 110, 99, 101] ts with
      | true =>
        have HS := Lib.hid (show onIs [115, 116, 111, 114, 101] (.ok ts) = false from hS)
        have HF := Lib.hid (show onIs [102, 101, 110, 99, 101] (.ok ts) = true from hF)
        have HE := Lib.hid (P.stmt_fence (n := n) hS hF)
        have HQ := Lib.hid (fence_eq (tl (.ok ts)))
        clear hS hF
        go_wp2_with fail
        with_reducible refine (is_c C g cap TS pv2 (.ok ts) ⟨#[115, 116, 111, 114, 101]⟩ _ H2.out.dc).mono ?_
        rintro e w3 ⟨rfl, hb⟩
        rw [show by' (⟨#[115, 116, 111, 114, 101]⟩ : ByteArray) = [115, 116, 111, 114, 101] from rfl, HS.out]
        have HR3 := Lib.hid (HR2.out.live' hb)
        have HB3 := Lib.hid (HB2.out.live' hb)
        have H3 := Lib.hid (H2.out.call (Only.of_below hb) (H2.out.dc.below hb))
        have hs3 := hb.size
        clear hb HR2 HB2
        go_wp2_with fail
        with_reducible refine (is_c C g cap TS pv2 (.ok ts) ⟨#[102, 101, 110, 99, 101]⟩ _ H3.out.dc).mono ?_
        rintro e w4 ⟨rfl, hb⟩
        rw [show by' (⟨#[102, 101, 110, 99, 101]⟩ : ByteArray) = [102, 101, 110, 99, 101] from rfl, HF.out]
        have HR4 := Lib.hid (HR3.out.live' hb)
        have HB4 := Lib.hid (HB3.out.live' hb)
        have H4 := Lib.hid (H3.out.call (Only.of_below hb) (H3.out.dc.below hb))
        have hs4 := hb.size
        clear hb HR3 HB3
        obtain ⟨kp5, x1, y1, hkp, hcs⟩ := H4.out.dc.past HF.out
        have HCS := Lib.hid hcs
        clear hcs
        obtain ⟨c0, c1, c2, c3, c4, c5, c6, f0, f1, f2, f3, f4, f5, f6⟩ := seven_free HB4.out
        go_wp2_with fail
        clear c0 c1 c2 c3 c4 c5 c6 f0 f1 f2 f3 f4 f5 f6
        clear x1 y1
        have HR5 := Lib.hid (HR4.out.only (only_at w4 C (.int .i64 ((kp5 : Int) + 1))) (fun e => H4.out.far HR4.out (by decide) (by decide) (.inl e)))
        have HB5 := Lib.hid (HB4.out.only (only_at w4 C (.int .i64 ((kp5 : Int) + 1))) (fun e => H4.out.far HB4.out (by decide) (by decide) (.inl e)))
        have H5 := Lib.hid (H4.out.call (only_at w4 C (.int .i64 ((kp5 : Int) + 1))) HCS.out)
        have hs5 := (only_at w4 C (.int .i64 ((kp5 : Int) + 1))).size
        clear HR4 HB4 HCS
        generalize w4.setCell ⟨C, 1, none⟩ (.int .i64 ((kp5 : Int) + 1)) = w5 at *
        have HR6 := Lib.hid (HR5.out.only (only_set w5 B 0 (.int .i64 6)) (by omega))
        have H6 := Lib.hid (H5.out.put (t := 62) (by decide) (by decide) (by omega) (by omega) HB5.out 0 (.int .i64 6))
        have HB6 := Lib.hid (sev0 HB5.out (.int .i64 6))
        have hs6 := (only_set w5 B 0 (.int .i64 6)).size
        clear HR5 HB5
        generalize w5.setCell ⟨B, 0, none⟩ (.int .i64 6) = w6 at *
        with_reducible refine (mode_c C g cap TS pv2 (tl (.ok ts)) _ H6.out.dc).mono ?_
        rintro e w7 ⟨v, rfl, ⟨m, rfl⟩, hd, ho, hm⟩
        have HR7 := Lib.hid (HR6.out.only ho (fun e => H6.out.far HR6.out (by decide) (by decide) (.inl e)))
        have HB7 := Lib.hid (HB6.out.only ho (fun e => H6.out.far HB6.out (by decide) (by decide) (.inl e)))
        have H7 := Lib.hid (H6.out.call (st2 := left (on (tl (.ok ts)) P.pMode)) ho hd)
        have hs7 := ho.size
        have HM := Lib.hid hm
        clear hm
        clear hd ho HR6 HB6
        obtain ⟨c0, c1, c2, c3, c4, c5, c6, f0, f1, f2, f3, f4, f5, f6⟩ := seven_free HB7.out
        go_wp2_with fail
        clear c0 c1 c2 c3 c4 c5 c6 f0 f1 f2 f3 f4 f5 f6
        have HR8 := Lib.hid (HR7.out.only (only_set w7 B 1 (.int .i64 m)) (by omega))
        have H8 := Lib.hid (H7.out.put (t := 62) (by decide) (by decide) (by omega) (by omega) HB7.out 1 (.int .i64 m))
        have HB8 := Lib.hid (sev1 HB7.out (.int .i64 m))
        have hs8 := (only_set w7 B 1 (.int .i64 m)).size
        clear HR7 HB7
        generalize w7.setCell ⟨B, 1, none⟩ (.int .i64 m) = w8 at *
        with_reducible refine (need_c C g cap TS pv2 (left (on (tl (.ok ts)) P.pMode)) ⟨#[59]⟩ _ H8.out.dc).mono ?_
        rintro e w9 ⟨rfl, hd, ho⟩
        have HR9 := Lib.hid (HR8.out.only ho (fun e => H8.out.far HR8.out (by decide) (by decide) (.inl e)))
        have HB9 := Lib.hid (HB8.out.only ho (fun e => H8.out.far HB8.out (by decide) (by decide) (.inl e)))
        have H9 := Lib.hid (H8.out.call (st2 := onNeed [59] (left (on (tl (.ok ts)) P.pMode))) ho hd)
        have hs9 := ho.size
        have HKP := Lib.hid ho
        clear hd ho HR8 HB8
        obtain ⟨c0, c1, c2, c3, c4, c5, c6, f0, f1, f2, f3, f4, f5, f6⟩ := seven_free HB9.out
        obtain ⟨z0, z1, z2, z3, z4, z5, z6, o0, o1, o2, o3, o4, o5, o6⟩ := seven_free HR9.out
        go_wp2_with fail
        refine bodyPost_ret (results_cell_row (p := 2) rfl _ _ R 62 #[.int .i64 6, .int .i64 m, .string ⟨#[]⟩, .string ⟨#[]⟩, .slice none 0 0, .slice none 0 0, .slice none 0 0] (0, 0) _ rfl (put7 HR9.out) Try.underlying62 rfl (by kernel_rfl)) rfl ?_
        refine stmt_done_c H9.out (by rw [HE.out, semi_left]; exact congrArg (onNeed [59]) HQ.out.1) HR9.out (by omega) (by omega) (by rw [hpl]; omega) ⟨_, _, _, _, _, _, _, _, _, _, _, _, _, rfl⟩ fun s qs t hh => ?_
        rw [HE.out] at hh
        obtain ⟨⟨t1, hx⟩, rfl⟩ := P.semi_ok hh
        refine ⟨rfl, ?_⟩
        obtain ⟨m', h1, rfl⟩ := HQ.out.2 s t1 hx
        have e1 := HM.out m' t1 h1
        injection e1 with _ e1
        subst e1
        exact ls_none
      | false =>
        cases hI : P.isS [105, 102] ts with
        | true =>
          have HS := Lib.hid (show onIs [115, 116, 111, 114, 101] (.ok ts) = false from hS)
          have HF := Lib.hid (show onIs [102, 101, 110, 99, 101] (.ok ts) = false from hF)
          have HI := Lib.hid (show onIs [105, 102] (.ok ts) = true from hI)
          have HE := Lib.hid (P.stmt_if (n := n) hI)
          clear hS hF hI
          go_wp2_with fail
          with_reducible refine (is_c C g cap TS pv2 (.ok ts) ⟨#[115, 116, 111, 114, 101]⟩ _ H2.out.dc).mono ?_
          rintro e w3 ⟨rfl, hb⟩
          rw [show by' (⟨#[115, 116, 111, 114, 101]⟩ : ByteArray) = [115, 116, 111, 114, 101] from rfl, HS.out]
          have HR3 := Lib.hid (HR2.out.live' hb)
          have HB3 := Lib.hid (HB2.out.live' hb)
          have H3 := Lib.hid (H2.out.call (Only.of_below hb) (H2.out.dc.below hb))
          have hs3 := hb.size
          clear hb HR2 HB2
          go_wp2_with fail
          with_reducible refine (is_c C g cap TS pv2 (.ok ts) ⟨#[102, 101, 110, 99, 101]⟩ _ H3.out.dc).mono ?_
          rintro e w4 ⟨rfl, hb⟩
          rw [show by' (⟨#[102, 101, 110, 99, 101]⟩ : ByteArray) = [102, 101, 110, 99, 101] from rfl, HF.out]
          have HR4 := Lib.hid (HR3.out.live' hb)
          have HB4 := Lib.hid (HB3.out.live' hb)
          have H4 := Lib.hid (H3.out.call (Only.of_below hb) (H3.out.dc.below hb))
          have hs4 := hb.size
          clear hb HR3 HB3
          go_wp2_with fail
          with_reducible refine (is_c C g cap TS pv2 (.ok ts) ⟨#[105, 102]⟩ _ H4.out.dc).mono ?_
          rintro e w5 ⟨rfl, hb⟩
          rw [show by' (⟨#[105, 102]⟩ : ByteArray) = [105, 102] from rfl, HI.out]
          have HR5 := Lib.hid (HR4.out.live' hb)
          have HB5 := Lib.hid (HB4.out.live' hb)
          have H5 := Lib.hid (H4.out.call (Only.of_below hb) (H4.out.dc.below hb))
          have hs5 := hb.size
          clear hb HR4 HB4
          obtain ⟨kp6, x1, y1, hkp, hcs⟩ := H5.out.dc.past HI.out
          have HCS := Lib.hid hcs
          clear hcs
          obtain ⟨c0, c1, c2, c3, c4, c5, c6, f0, f1, f2, f3, f4, f5, f6⟩ := seven_free HB5.out
          go_wp2_with fail
          clear c0 c1 c2 c3 c4 c5 c6 f0 f1 f2 f3 f4 f5 f6
          clear x1 y1
          have HR6 := Lib.hid (HR5.out.only (only_at w5 C (.int .i64 ((kp6 : Int) + 1))) (fun e => H5.out.far HR5.out (by decide) (by decide) (.inl e)))
          have HB6 := Lib.hid (HB5.out.only (only_at w5 C (.int .i64 ((kp6 : Int) + 1))) (fun e => H5.out.far HB5.out (by decide) (by decide) (.inl e)))
          have H6 := Lib.hid (H5.out.call (only_at w5 C (.int .i64 ((kp6 : Int) + 1))) HCS.out)
          have hs6 := (only_at w5 C (.int .i64 ((kp6 : Int) + 1))).size
          clear HR5 HB5 HCS
          generalize w5.setCell ⟨C, 1, none⟩ (.int .i64 ((kp6 : Int) + 1)) = w6 at *
          have HR7 := Lib.hid (HR6.out.only (only_set w6 B 0 (.int .i64 7)) (by omega))
          have H7 := Lib.hid (H6.out.put (t := 62) (by decide) (by decide) (by omega) (by omega) HB6.out 0 (.int .i64 7))
          have HB7 := Lib.hid (sev0 HB6.out (.int .i64 7))
          have hs7 := (only_set w6 B 0 (.int .i64 7)).size
          clear HR6 HB6
          generalize w6.setCell ⟨B, 0, none⟩ (.int .i64 7) = w7 at *
          with_reducible refine (expr_c C g cap TS pv2 (tl (.ok ts)) _ H7.out.dc).mono ?_
          rintro e w8 ⟨v, rfl, ⟨ox, mx, sx, ax, nx, cx, rfl⟩, hd, ho, hx⟩
          have HR8 := Lib.hid (HR7.out.only ho (fun e => H7.out.far HR7.out (by decide) (by decide) (.inl e)))
          have HB8 := Lib.hid (HB7.out.only ho (fun e => H7.out.far HB7.out (by decide) (by decide) (.inl e)))
          have H8 := Lib.hid (H7.out.call (st2 := left (on (tl (.ok ts)) P.pExpr)) ho hd)
          have hs8 := ho.size
          have HX := Lib.hid hx
          clear hx
          clear hd ho HR7 HB7
          obtain ⟨c0, c1, c2, c3, c4, c5, c6, f0, f1, f2, f3, f4, f5, f6⟩ := seven_free HB8.out
          have hRl : B < w8.heap.size := HB8.out.lt
          have HPB := Lib.hid (fun b hb => (H7.out.own.lt b hb).2)
          go_wp2_with fail
          clear c0 c1 c2 c3 c4 c5 c6 f0 f1 f2 f3 f4 f5 f6
          have hbA : Below w8.heap.size (w8.setCell ⟨B, 4, none⟩ (.slice (some ⟨w8.heap.size, 0, none⟩) 1 1)) ((w8.setCell ⟨B, 4, none⟩ (.slice (some ⟨w8.heap.size, 0, none⟩) 1 1)).alloc (.cells #[.int .i64 ox, .int .i64 mx, .string sx, .slice ax nx cx] 93)) := (Below.refl _ _).alloc (by simp) _
          have hbs : (w8.setCell ⟨B, 4, none⟩ (.slice (some ⟨w8.heap.size, 0, none⟩) 1 1)).heap.size = w8.heap.size := by simp
          have H9' := H8.out.put (t := 62) (by decide) (by decide) (by omega) (by omega) HB8.out 4 (.slice (some ⟨w8.heap.size, 0, none⟩) 1 1)
          have H9 := Lib.hid (H9'.call (Only.of_below (by rw [hbs]; exact hbA)) (H9'.dc.below (by rw [hbs]; exact hbA)))
          have HB9 := Lib.hid ((sev4 HB8.out (.slice (some ⟨w8.heap.size, 0, none⟩) 1 1)).alloc (.cells #[.int .i64 ox, .int .i64 mx, .string sx, .slice ax nx cx] 93))
          have HR9 := Lib.hid ((HR8.out.only (only_set w8 B 4 (.slice (some ⟨w8.heap.size, 0, none⟩) 1 1)) (by omega)).alloc (.cells #[.int .i64 ox, .int .i64 mx, .string sx, .slice ax nx cx] 93))
          have HX8 := Lib.hid (fun x ts hh => lxs_one (Q := NwB R pv2 B R) (arg_blk w8 B (.slice (some ⟨w8.heap.size, 0, none⟩) 1 1) #[.int .i64 ox, .int .i64 mx, .string sx, .slice ax nx cx]) (arg_keep (LX.mono (fun b hb _ => ⟨by unfold From at hb; omega, fun e => by have := HPB.out b e; unfold From at hb; omega, by unfold From at hb; omega, by unfold From at hb; omega⟩) _ (HX.out x ts hh)) (fun hq => hq.2.2.1 rfl) (.slice (some ⟨w8.heap.size, 0, none⟩) 1 1) (.cells #[.int .i64 ox, .int .i64 mx, .string sx, .slice ax nx cx] 93)))
          have HQK := Lib.hid (show NwB R pv2 B R w8.heap.size from ⟨by omega, fun e => by have := HPB.out _ e; omega, by omega, by omega⟩)
          have hs9 : w8.heap.size < ((w8.setCell ⟨B, 4, none⟩ (.slice (some ⟨w8.heap.size, 0, none⟩) 1 1)).alloc (.cells #[.int .i64 ox, .int .i64 mx, .string sx, .slice ax nx cx] 93)).heap.size := by simp
          clear H9' hbA hbs HX HR8 HB8
          generalize (w8.setCell ⟨B, 4, none⟩ (.slice (some ⟨w8.heap.size, 0, none⟩) 1 1)).alloc (.cells #[.int .i64 ox, .int .i64 mx, .string sx, .slice ax nx cx] 93) = w9 at *
          generalize hKe : w8.heap.size = K at *
          have hKw : K ≤ w8.heap.size := by omega
          have hKw' : w8.heap.size ≤ K := by omega
          clear hKe
          have hl1 := slen_on P.pExpr_less (tl (.ok ts))
          have hl0 : slen (tl (.ok ts)) + 1 ≤ ts.length := by
            show ts.tail.length + 1 ≤ ts.length
            rw [List.length_tail]
            omega
          have hcall := HBl.out (left (on (tl (.ok ts)) P.pExpr)) pv2 (ps ++ [P.here ts]) w9 H9.out.dc H9.out.own (by omega) (by rw [hpl]; omega) (by omega)
          with_reducible refine hcall.mono ?_
          rintro e w10 ⟨v, pv4, ps4, rfl, ⟨a4, n4, k4, rfl⟩, hd, hp, hb4, ho, hf, hv⟩
          clear hcall
          have HR10 := Lib.hid (HR9.out.only ho (H9.out.far HR9.out (by decide) (by decide)))
          have HB10 := Lib.hid (HB9.out.only ho (H9.out.far HB9.out (by decide) (by decide)))
          have HS4 := Lib.hid (same_call (B := B) (R := R) (n := R) hCl ho hf)
          have HX10 := Lib.hid (fun x ts hh => LXs.step HS4.out HQK.out (by simp) (HX8.out x ts hh))
          have HV10 := Lib.hid (fun l q tz hh => (show ps4 = (ps ++ [P.here ts]) ++ q ∧ IsSs (NwB R pv4 B R) w10 (.slice a4 n4 k4) l from ⟨(hv l q tz hh).1, IsSs.step (fun b hb hl => ⟨⟨by have := hb.1; omega, hb.2, by have := hb.1; omega, by have := hb.1; omega⟩, rfl⟩) (hv l q tz hh).2⟩))
          have H10 := Lib.hid (H9.out.on hd hp ho hf)
          have hs10 := ho.size
          clear hd hp ho hf hv HS4 HX8 HQK
          obtain ⟨c0, c1, c2, c3, c4, c5, c6, f0, f1, f2, f3, f4, f5, f6⟩ := seven_free HB10.out
          go_wp2_with fail
          clear c0 c1 c2 c3 c4 c5 c6 f0 f1 f2 f3 f4 f5 f6
          have HR11 := Lib.hid (HR10.out.only (only_set w10 B 5 (.slice a4 n4 k4)) (by omega))
          have H11 := Lib.hid (H10.out.put (t := 62) (by decide) (by decide) (by omega) (by omega) HB10.out 5 (.slice a4 n4 k4))
          have HB11 := Lib.hid (sev5 HB10.out (.slice a4 n4 k4))
          have hs11 := (only_set w10 B 5 (.slice a4 n4 k4)).size
          have HX11 := Lib.hid (fun x ts hh => LXs.step (same_set (i := 5) (.slice a4 n4 k4)) (HX10.out x ts hh).1 (by simp) (HX10.out x ts hh).2)
          have HV11 := Lib.hid (fun l q tz hh => (show ps4 = (ps ++ [P.here ts]) ++ q ∧ IsSs (NwB R pv4 B R) (w10.setCell ⟨B, 5, none⟩ (.slice a4 n4 k4)) (.slice a4 n4 k4) l from ⟨(HV10.out l q tz hh).1, IsSs.step (same_set (i := 5) (.slice a4 n4 k4)) (HV10.out l q tz hh).2⟩))
          clear HR10 HB10
          generalize w10.setCell ⟨B, 5, none⟩ (.slice a4 n4 k4) = w11 at *
          have hl2 := slen_on (P.blockF_less (P.stmtN_less n)) (left (on (tl (.ok ts)) P.pExpr))
          have hl3 := slen_tl (left (on (left (on (tl (.ok ts)) P.pExpr)) (P.blockF (P.stmtN n))))
          cases hE : onIs [101, 108, 115, 101] (left (on (left (on (tl (.ok ts)) P.pExpr)) (P.blockF (P.stmtN n)))) with
          | false =>
            have HEI := Lib.hid hE
            have HC := Lib.hid (choice_none (n := n) (st := tl (.ok ts)) rfl hE)
            clear hE
            with_reducible refine (is_c C g cap TS pv4 (left (on (left (on (tl (.ok ts)) P.pExpr)) (P.blockF (P.stmtN n)))) ⟨#[101, 108, 115, 101]⟩ _ H11.out.dc).mono ?_
            rintro e w12 ⟨rfl, hb⟩
            rw [show by' (⟨#[101, 108, 115, 101]⟩ : ByteArray) = [101, 108, 115, 101] from rfl, HEI.out]
            have HR12 := Lib.hid (HR11.out.live' hb)
            have HB12 := Lib.hid (HB11.out.live' hb)
            have H12 := Lib.hid (H11.out.call (Only.of_below hb) (H11.out.dc.below hb))
            have hs12 := hb.size
            have HX12 := Lib.hid (fun x ts hh => LXs.step (same_callC hCl (Only.of_below hb)) (HX11.out x ts hh).1 (by simp) (HX11.out x ts hh).2)
            have HV12 := Lib.hid (fun l q tz hh => (show ps4 = (ps ++ [P.here ts]) ++ q ∧ IsSs (NwB R pv4 B R) w12 (.slice a4 n4 k4) l from ⟨(HV11.out l q tz hh).1, IsSs.step (same_callC hCl (Only.of_below hb)) (HV11.out l q tz hh).2⟩))
            clear hb HR11 HB11
            obtain ⟨c0, c1, c2, c3, c4, c5, c6, f0, f1, f2, f3, f4, f5, f6⟩ := seven_free HB12.out
            obtain ⟨z0, z1, z2, z3, z4, z5, z6, o0, o1, o2, o3, o4, o5, o6⟩ := seven_free HR12.out
            go_wp2_with fail
            refine bodyPost_ret (results_cell_row (p := 2) rfl _ _ R 62 #[.int .i64 7, .int .i64 0, .string ⟨#[]⟩, .string ⟨#[]⟩, .slice (some ⟨K, 0, none⟩) 1 1, .slice a4 n4 k4, .slice none 0 0] (0, 0) _ rfl (put7 HR12.out) Try.underlying62 rfl (by kernel_rfl)) rfl ?_
            have hle : left (P.stmtN (n + 1) ts) = left (on (tl (.ok ts)) (P.choiceF n)) := by
              rw [HE.out]
              exact left_ahead _ _
            rw [hpl] at hb4
            refine stmt_done_c H12.out (hle.trans HC.out.1) HR12.out (by omega) (by omega) (by rw [hle, HC.out.1]; omega) ⟨_, _, _, _, _, _, _, _, _, _, _, _, _, rfl⟩ fun s qs t hh => ?_
            rw [HE.out] at hh
            obtain ⟨q1, hc, rfl⟩ := ahead_ok hh
            obtain ⟨x, r1, l1, r2, h1, h2, rfl⟩ := HC.out.2 s q1 t hc
            obtain ⟨hq, ht⟩ := HV12.out l1 q1 r2 h2
            obtain ⟨hk, hx⟩ := HX12.out x r1 h1
            exact ⟨by rw [hq, List.append_assoc]; rfl, LS.mono (fun b hb _ => ⟨⟨by have := hb.1; omega, hb.2.1⟩, hb.2.2.2⟩) _ (ls_if hk hx ht isSs_none)⟩
          | true =>
            have HEI := Lib.hid hE
            have HC := Lib.hid (choice_else (n := n) (st := tl (.ok ts)) rfl hE)
            clear hE
            with_reducible refine (is_c C g cap TS pv4 (left (on (left (on (tl (.ok ts)) P.pExpr)) (P.blockF (P.stmtN n)))) ⟨#[101, 108, 115, 101]⟩ _ H11.out.dc).mono ?_
            rintro e w12 ⟨rfl, hb⟩
            rw [show by' (⟨#[101, 108, 115, 101]⟩ : ByteArray) = [101, 108, 115, 101] from rfl, HEI.out]
            have HR12 := Lib.hid (HR11.out.live' hb)
            have HB12 := Lib.hid (HB11.out.live' hb)
            have H12 := Lib.hid (H11.out.call (Only.of_below hb) (H11.out.dc.below hb))
            have hs12 := hb.size
            have HX12 := Lib.hid (fun x ts hh => LXs.step (same_callC hCl (Only.of_below hb)) (HX11.out x ts hh).1 (by simp) (HX11.out x ts hh).2)
            have HV12 := Lib.hid (fun l q tz hh => (show ps4 = (ps ++ [P.here ts]) ++ q ∧ IsSs (NwB R pv4 B R) w12 (.slice a4 n4 k4) l from ⟨(HV11.out l q tz hh).1, IsSs.step (same_callC hCl (Only.of_below hb)) (HV11.out l q tz hh).2⟩))
            clear hb HR11 HB11
            obtain ⟨kp13, x1, y1, hkp, hcs⟩ := H12.out.dc.past HEI.out
            have HCS := Lib.hid hcs
            clear hcs
            obtain ⟨c0, c1, c2, c3, c4, c5, c6, f0, f1, f2, f3, f4, f5, f6⟩ := seven_free HB12.out
            go_wp2_with fail
            clear c0 c1 c2 c3 c4 c5 c6 f0 f1 f2 f3 f4 f5 f6
            clear x1 y1
            have HR13 := Lib.hid (HR12.out.only (only_at w12 C (.int .i64 ((kp13 : Int) + 1))) (fun e => H12.out.far HR12.out (by decide) (by decide) (.inl e)))
            have HB13 := Lib.hid (HB12.out.only (only_at w12 C (.int .i64 ((kp13 : Int) + 1))) (fun e => H12.out.far HB12.out (by decide) (by decide) (.inl e)))
            have H13 := Lib.hid (H12.out.call (only_at w12 C (.int .i64 ((kp13 : Int) + 1))) HCS.out)
            have hs13 := (only_at w12 C (.int .i64 ((kp13 : Int) + 1))).size
            have HX13 := Lib.hid (fun x ts hh => LXs.step (same_callC hCl (only_at w12 C (.int .i64 ((kp13 : Int) + 1)))) (HX12.out x ts hh).1 (by simp) (HX12.out x ts hh).2)
            have HV13 := Lib.hid (fun l q tz hh => (show ps4 = (ps ++ [P.here ts]) ++ q ∧ IsSs (NwB R pv4 B R) (w12.setCell ⟨C, 1, none⟩ (.int .i64 ((kp13 : Int) + 1))) (.slice a4 n4 k4) l from ⟨(HV12.out l q tz hh).1, IsSs.step (same_callC hCl (only_at w12 C (.int .i64 ((kp13 : Int) + 1)))) (HV12.out l q tz hh).2⟩))
            clear HR12 HB12 HCS
            generalize w12.setCell ⟨C, 1, none⟩ (.int .i64 ((kp13 : Int) + 1)) = w13 at *
            have hcall := HBl.out _ pv4 ps4 w13 H13.out.dc H13.out.own (by omega) (by rw [hpl] at hb4; omega) (by omega)
            with_reducible refine hcall.mono ?_
            rintro e w14 ⟨v, pv7, ps7, rfl, ⟨a7, n7, k7, rfl⟩, hd, hp, hb7, ho, hf, hv⟩
            clear hcall
            have HR14 := Lib.hid (HR13.out.only ho (H13.out.far HR13.out (by decide) (by decide)))
            have HB14 := Lib.hid (HB13.out.only ho (H13.out.far HB13.out (by decide) (by decide)))
            have HS7 := Lib.hid (same_call (B := B) (R := R) (n := R) hCl ho hf)
            have HX14 := Lib.hid (fun x ts hh => LXs.step HS7.out (HX13.out x ts hh).1 (by simp) (HX13.out x ts hh).2)
            have HV14 := Lib.hid (fun l q tz hh => (show ps4 = (ps ++ [P.here ts]) ++ q ∧ IsSs (NwB R pv7 B R) w14 (.slice a4 n4 k4) l from ⟨(HV13.out l q tz hh).1, IsSs.step HS7.out (HV13.out l q tz hh).2⟩))
            have HU14 := Lib.hid (fun l q tz hh => (show ps7 = ps4 ++ q ∧ IsSs (NwB R pv7 B R) w14 (.slice a7 n7 k7) l from ⟨(hv l q tz hh).1, IsSs.step (fun b hb hl => ⟨⟨by have := hb.1; omega, hb.2, by have := hb.1; omega, by have := hb.1; omega⟩, rfl⟩) (hv l q tz hh).2⟩))
            have H14 := Lib.hid (H13.out.on hd hp ho hf)
            have hs14 := ho.size
            clear hd hp ho hf hv HS7
            obtain ⟨c0, c1, c2, c3, c4, c5, c6, f0, f1, f2, f3, f4, f5, f6⟩ := seven_free HB14.out
            go_upto_region 26 with (fail)
            clear c0 c1 c2 c3 c4 c5 c6 f0 f1 f2 f3 f4 f5 f6
            have HR15 := Lib.hid (HR14.out.only (only_set w14 B 6 (.slice a7 n7 k7)) (by omega))
            have H15 := Lib.hid (H14.out.put (t := 62) (by decide) (by decide) (by omega) (by omega) HB14.out 6 (.slice a7 n7 k7))
            have HB15 := Lib.hid (sev6 HB14.out (.slice a7 n7 k7))
            have hs15 := (only_set w14 B 6 (.slice a7 n7 k7)).size
            have HX15 := Lib.hid (fun x ts hh => LXs.step (same_set (i := 6) (.slice a7 n7 k7)) (HX14.out x ts hh).1 (by simp) (HX14.out x ts hh).2)
            have HV15 := Lib.hid (fun l q tz hh => (show ps4 = (ps ++ [P.here ts]) ++ q ∧ IsSs (NwB R pv7 B R) (w14.setCell ⟨B, 6, none⟩ (.slice a7 n7 k7)) (.slice a4 n4 k4) l from ⟨(HV14.out l q tz hh).1, IsSs.step (same_set (i := 6) (.slice a7 n7 k7)) (HV14.out l q tz hh).2⟩))
            have HU15 := Lib.hid (fun l q tz hh => (show ps7 = ps4 ++ q ∧ IsSs (NwB R pv7 B R) (w14.setCell ⟨B, 6, none⟩ (.slice a7 n7 k7)) (.slice a7 n7 k7) l from ⟨(HU14.out l q tz hh).1, IsSs.step (same_set (i := 6) (.slice a7 n7 k7)) (HU14.out l q tz hh).2⟩))
            clear HR14 HB14
            generalize w14.setCell ⟨B, 6, none⟩ (.slice a7 n7 k7) = w15 at *
            obtain ⟨c0, c1, c2, c3, c4, c5, c6, f0, f1, f2, f3, f4, f5, f6⟩ := seven_free HB15.out
            obtain ⟨z0, z1, z2, z3, z4, z5, z6, o0, o1, o2, o3, o4, o5, o6⟩ := seven_free HR15.out
            go_wp2_with fail
            refine bodyPost_ret (results_cell_row (p := 2) rfl _ _ R 62 #[.int .i64 7, .int .i64 0, .string ⟨#[]⟩, .string ⟨#[]⟩, .slice (some ⟨K, 0, none⟩) 1 1, .slice a4 n4 k4, .slice a7 n7 k7] (0, 0) _ rfl (put7 HR15.out) Try.underlying62 rfl (by kernel_rfl)) rfl ?_
            have hle : left (P.stmtN (n + 1) ts) = left (on (tl (.ok ts)) (P.choiceF n)) := by
              rw [HE.out]
              exact left_ahead _ _
            rw [hpl] at hb4
            refine stmt_done_c H15.out (hle.trans HC.out.1) HR15.out (by omega) (by omega) (by rw [hle, HC.out.1]; omega) ⟨_, _, _, _, _, _, _, _, _, _, _, _, _, rfl⟩ fun s qs t hh => ?_
            rw [HE.out] at hh
            obtain ⟨q0, hc, rfl⟩ := ahead_ok hh
            obtain ⟨x, r1, l1, q1, r2, l2, q2, h1, h2, h3, rfl, rfl⟩ := HC.out.2 s q0 t hc
            obtain ⟨hq, ht⟩ := HV15.out l1 q1 r2 h2
            obtain ⟨hq', hu⟩ := HU15.out l2 q2 t h3
            obtain ⟨hk, hx⟩ := HX15.out x r1 h1
            exact ⟨by rw [hq', hq]; simp, LS.mono (fun b hb _ => ⟨⟨by have := hb.1; omega, hb.2.1⟩, hb.2.2.2⟩) _ (ls_if hk hx ht hu)⟩
        | false =>
          have HS := Lib.hid (show onIs [115, 116, 111, 114, 101] (.ok ts) = false from hS)
          have HF := Lib.hid (show onIs [102, 101, 110, 99, 101] (.ok ts) = false from hF)
          have HI := Lib.hid (show onIs [105, 102] (.ok ts) = false from hI)
          have HE := Lib.hid (P.stmt_set (n := n) hI hS hF)
          clear hS hF hI
          go_wp2_with fail
          with_reducible refine (is_c C g cap TS pv2 (.ok ts) ⟨#[115, 116, 111, 114, 101]⟩ _ H2.out.dc).mono ?_
          rintro e w3 ⟨rfl, hb⟩
          rw [show by' (⟨#[115, 116, 111, 114, 101]⟩ : ByteArray) = [115, 116, 111, 114, 101] from rfl, HS.out]
          have HR3 := Lib.hid (HR2.out.live' hb)
          have HB3 := Lib.hid (HB2.out.live' hb)
          have H3 := Lib.hid (H2.out.call (Only.of_below hb) (H2.out.dc.below hb))
          have hs3 := hb.size
          clear hb HR2 HB2
          go_wp2_with fail
          with_reducible refine (is_c C g cap TS pv2 (.ok ts) ⟨#[102, 101, 110, 99, 101]⟩ _ H3.out.dc).mono ?_
          rintro e w4 ⟨rfl, hb⟩
          rw [show by' (⟨#[102, 101, 110, 99, 101]⟩ : ByteArray) = [102, 101, 110, 99, 101] from rfl, HF.out]
          have HR4 := Lib.hid (HR3.out.live' hb)
          have HB4 := Lib.hid (HB3.out.live' hb)
          have H4 := Lib.hid (H3.out.call (Only.of_below hb) (H3.out.dc.below hb))
          have hs4 := hb.size
          clear hb HR3 HB3
          go_wp2_with fail
          with_reducible refine (is_c C g cap TS pv2 (.ok ts) ⟨#[105, 102]⟩ _ H4.out.dc).mono ?_
          rintro e w5 ⟨rfl, hb⟩
          rw [show by' (⟨#[105, 102]⟩ : ByteArray) = [105, 102] from rfl, HI.out]
          have HR5 := Lib.hid (HR4.out.live' hb)
          have HB5 := Lib.hid (HB4.out.live' hb)
          have H5 := Lib.hid (H4.out.call (Only.of_below hb) (H4.out.dc.below hb))
          have hs5 := hb.size
          clear hb HR4 HB4
          go_wp2_with fail
          with_reducible refine (name_c C g cap TS pv2 (.ok ts) _ H5.out.dc).mono ?_
          rintro e w6 ⟨v, rfl, ⟨X, rfl⟩, hd, ho, hm⟩
          have HR6 := Lib.hid (HR5.out.only ho (fun e => H5.out.far HR5.out (by decide) (by decide) (.inl e)))
          have HB6 := Lib.hid (HB5.out.only ho (fun e => H5.out.far HB5.out (by decide) (by decide) (.inl e)))
          have H6 := Lib.hid (H5.out.call (st2 := left (on (.ok ts) P.pName)) ho hd)
          have hs6 := ho.size
          have HN := Lib.hid hm
          clear hm
          clear hd ho HR5 HB5
          obtain ⟨c0, c1, c2, c3, c4, c5, c6, f0, f1, f2, f3, f4, f5, f6⟩ := seven_free HB6.out
          go_wp2_with fail
          clear c0 c1 c2 c3 c4 c5 c6 f0 f1 f2 f3 f4 f5 f6
          have HR7 := Lib.hid (HR6.out.only (only_set w6 B 2 (.string X)) (by omega))
          have H7 := Lib.hid (H6.out.put (t := 62) (by decide) (by decide) (by omega) (by omega) HB6.out 2 (.string X))
          have HB7 := Lib.hid (sev2 HB6.out (.string X))
          have hs7 := (only_set w6 B 2 (.string X)).size
          clear HR6 HB6
          generalize w6.setCell ⟨B, 2, none⟩ (.string X) = w7 at *
          with_reducible refine (need_c C g cap TS pv2 _ ⟨#[61]⟩ _ H7.out.dc).mono ?_
          rintro e w8 ⟨rfl, hd, ho⟩
          have HR8 := Lib.hid (HR7.out.only ho (fun e => H7.out.far HR7.out (by decide) (by decide) (.inl e)))
          have HB8 := Lib.hid (HB7.out.only ho (fun e => H7.out.far HB7.out (by decide) (by decide) (.inl e)))
          have H8 := Lib.hid (H7.out.call (st2 := onNeed [61] (left (on (.ok ts) P.pName))) ho hd)
          have hs8 := ho.size
          clear hd ho HR7 HB7
          go_upto_region 5 with (fail)
          obtain ⟨bad, hbd, hb1, hb2, _⟩ := H8.out.dc.bad
          have HQ := Lib.hid (set_eq (rg := by' X) (ts := ts) (fun a r hh => by
            have e1 := HN.out a r hh
            injection e1 with e1
            rw [e1]
            exact by_bs a))
          cases hz : onNeed [61] (left (on (.ok ts) P.pName)) with
          | error q =>
            have hbn := hb2 ⟨q, hz⟩
            have hdd : decide (bad < 0) = false := by simp; omega
            have HQL := Lib.hid (show left (P.setF ts) = .error q by
              rw [← HQ.out, hz]
              rfl)
            rw [hz] at H8
            clear hz hb1 hb2 hbn
            go_wp2_with fail
            clear hbd hdd
            with_reducible refine (need_c C g cap TS pv2 (.error q) ⟨#[59]⟩ _ H8.out.dc).mono ?_
            rintro e w9 ⟨rfl, hd, ho⟩
            have HR9 := Lib.hid (HR8.out.only ho (fun e => H8.out.far HR8.out (by decide) (by decide) (.inl e)))
            have HB9 := Lib.hid (HB8.out.only ho (fun e => H8.out.far HB8.out (by decide) (by decide) (.inl e)))
            have H9 := Lib.hid (H8.out.call (st2 := onNeed [59] (.error q)) ho hd)
            have hs9 := ho.size
            have HKP := Lib.hid ho
            clear hd ho HR8 HB8
            obtain ⟨c0, c1, c2, c3, c4, c5, c6, f0, f1, f2, f3, f4, f5, f6⟩ := seven_free HB9.out
            obtain ⟨z0, z1, z2, z3, z4, z5, z6, o0, o1, o2, o3, o4, o5, o6⟩ := seven_free HR9.out
            go_wp2_with fail
            refine bodyPost_ret (results_cell_row (p := 2) rfl _ _ R 62 #[.int .i64 0, .int .i64 0, .string X, .string ⟨#[]⟩, .slice none 0 0, .slice none 0 0, .slice none 0 0] (0, 0) _ rfl (put7 HR9.out) Try.underlying62 rfl (by kernel_rfl)) rfl ?_
            refine stmt_done_c H9.out (by rw [HE.out, semi_left, HQL.out]) HR9.out (by omega) (by omega) (by rw [hpl]; omega) ⟨_, _, _, _, _, _, _, _, _, _, _, _, _, rfl⟩ fun s qs t hh => ?_
            rw [HE.out] at hh
            obtain ⟨⟨t1, hx⟩, rfl⟩ := P.semi_ok hh
            exact (left_not HQL.out hx).elim
          | ok t2 =>
            obtain rfl : bad = -1 := hb1 ⟨t2, hz⟩
            rw [hz] at H8 HQ
            clear hz hb1 hb2
            obtain ⟨c0, c1, c2, c3, c4, c5, c6, f0, f1, f2, f3, f4, f5, f6⟩ := seven_free HB8.out
            have hXX := bs_by X
            have HR_ := Lib.hid (right_c C g cap TS pv2 t2 (by' X) w8 H8.out.dc)
            rw [hXX] at HR_
            clear hXX
            go_wp2_with fail
            clear c0 c1 c2 c3 c4 c5 c6 f0 f1 f2 f3 f4 f5 f6
            clear hbd
            with_reducible refine (HR_.out).mono ?_
            rintro e w9 ⟨v, rfl, ⟨kd, md, rg, lc, x1, n1, k1, x2, n2, k2, x3, n3, k3, rfl⟩, hd, ho, hx⟩
            have HR9 := Lib.hid (HR8.out.only ho (fun e => H8.out.far HR8.out (by decide) (by decide) (.inl e)))
            have HB9 := Lib.hid (HB8.out.only ho (fun e => H8.out.far HB8.out (by decide) (by decide) (.inl e)))
            have H9 := Lib.hid (H8.out.call (st2 := left (P.rightF (by' X) t2)) ho hd)
            have hs9 := ho.size
            have HX := Lib.hid hx
            have hsz0 := ho.size
            clear hx
            clear hd ho HR8 HB8
            obtain ⟨c0, c1, c2, c3, c4, c5, c6, f0, f1, f2, f3, f4, f5, f6⟩ := seven_free HB9.out
            go_wp2_with fail
            clear c0 c1 c2 c3 c4 c5 c6 f0 f1 f2 f3 f4 f5 f6
            have hput : Only (fun b => b = B) w9 (put7w w9 B (.int .i64 kd) (.int .i64 md) (.string rg) (.string lc) (.slice x1 n1 k1) (.slice x2 n2 k2) (.slice x3 n3 k3)) := Only.put7 (Only.refl (fun b => b = B) w9) (.inl rfl) (.int .i64 kd) (.int .i64 md) (.string rg) (.string lc) (.slice x1 n1 k1) (.slice x2 n2 k2) (.slice x3 n3 k3)
            have HR10 := Lib.hid (HR9.out.only hput (by omega))
            have H10 := Lib.hid (H9.out.put7 (by omega) (by omega) HB9.out (.int .i64 kd) (.int .i64 md) (.string rg) (.string lc) (.slice x1 n1 k1) (.slice x2 n2 k2) (.slice x3 n3 k3))
            have HB10 := Lib.hid (put7 (a' := .int .i64 kd) (b' := .int .i64 md) (c' := .string rg) (d' := .string lc) (e' := .slice x1 n1 k1) (f' := .slice x2 n2 k2) (h' := .slice x3 n3 k3) HB9.out)
            have hs10 := hput.size
            have HPT := Lib.hid hput
            clear hput HR9 HB9
            unfold put7w at HR10 HB10 H10 HPT hs10
            generalize ((((((w9.setCell ⟨B, 0, none⟩ (.int .i64 kd)).setCell ⟨B, 1, none⟩ (.int .i64 md)).setCell ⟨B, 2, none⟩ (.string rg)).setCell ⟨B, 3, none⟩ (.string lc)).setCell ⟨B, 4, none⟩ (.slice x1 n1 k1)).setCell ⟨B, 5, none⟩ (.slice x2 n2 k2)).setCell ⟨B, 6, none⟩ (.slice x3 n3 k3) = w10 at *
            with_reducible refine (need_c C g cap TS pv2 (left (P.rightF (by' X) t2)) ⟨#[59]⟩ _ H10.out.dc).mono ?_
            rintro e w11 ⟨rfl, hd, ho⟩
            have HR11 := Lib.hid (HR10.out.only ho (fun e => H10.out.far HR10.out (by decide) (by decide) (.inl e)))
            have HB11 := Lib.hid (HB10.out.only ho (fun e => H10.out.far HB10.out (by decide) (by decide) (.inl e)))
            have H11 := Lib.hid (H10.out.call (st2 := onNeed [59] (left (P.rightF (by' X) t2))) ho hd)
            have hs11 := ho.size
            have HKP := Lib.hid ho
            clear hd ho HR10 HB10
            obtain ⟨c0, c1, c2, c3, c4, c5, c6, f0, f1, f2, f3, f4, f5, f6⟩ := seven_free HB11.out
            obtain ⟨z0, z1, z2, z3, z4, z5, z6, o0, o1, o2, o3, o4, o5, o6⟩ := seven_free HR11.out
            go_wp2_with fail
            refine bodyPost_ret (results_cell_row (p := 2) rfl _ _ R 62 #[.int .i64 kd, .int .i64 md, .string rg, .string lc, .slice x1 n1 k1, .slice x2 n2 k2, .slice x3 n3 k3] (0, 0) _ rfl (put7 HR11.out) Try.underlying62 rfl (by kernel_rfl)) rfl ?_
            refine stmt_done_c H11.out (by rw [HE.out, semi_left]; exact congrArg (fun x => onNeed [59] (left x)) HQ.out.symm) HR11.out (by omega) (by omega) (by rw [hpl]; omega) ⟨_, _, _, _, _, _, _, _, _, _, _, _, _, rfl⟩ fun s qs t hh => ?_
            rw [HE.out] at hh
            obtain ⟨⟨t1, hx⟩, rfl⟩ := P.semi_ok hh
            refine ⟨rfl, ?_⟩
            have h1 := HX.out s t1 (HQ.out.trans hx)
            have hpb : ∀ b, pv2.ownBlock = some b → b < w8.heap.size := fun b hb => (H8.out.own.lt b hb).2
            exact LS.step (Q := From w8.heap.size) (fun b hb hl => ⟨⟨⟨by unfold From at hb; omega, fun e => by have := hpb b e; unfold From at hb; omega⟩, by unfold From at hb; omega⟩, (HKP.out.block b (Nat.lt_of_lt_of_le hl HPT.out.size) (by unfold From at hb; omega)).trans (HPT.out.block b hl (by unfold From at hb; omega))⟩) h1
end Go.Proofs.Ytikihomablmcnaa.Lx
