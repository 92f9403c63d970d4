/-
  program of the document's cursor: a contract.
-/
import Derived.Test.YtikihomablmcnaaQMb
import Derived.Deep.DeepCutAuto
namespace Go.Proofs.Ytikihomablmcnaa.Lx
open Go.RowKit
open L (Tok)
open P (EX CO ST PG Gl nextR)
set_option maxRecDepth 100000
set_option linter.unusedVariables false
set_option linter.unusedSimpArgs false
/-- What stands behind a place that is kept: the cursor, two blocks as they were. -/
def PartB (w w1 : World) (R B : Nat) (zr zb : Array Value) (C g cap base : Nat) (TS : List Tok) (pv pv1 : Value) (ps : List Nat) (st : Sta) (wx : World) : Prop :=
  ∃ pv2 x, Cq w wx C g cap base TS pv pv2 (ps ++ [x]) st ∧ (∀ ts, st = .ok ts → x = P.here ts) ∧ Blk wx R 29 zr ∧ Blk wx B 29 zb ∧ w1.heap.size ≤ wx.heap.size ∧ Only (Pb C pv1) w1 wx ∧ Fr pv1 pv2 w1.heap.size
/-- What the loop over inits keeps. -/
def InitR (C g cap base : Nat) (TS : List Tok) (pv : Value) (R B : Nat) (X : ByteArray) (vn : Int) (w wr : World) : Prop :=
  ∃ vi pvj psj m vals r, Mb 2 agg LE 68 B (P.runF P.isInit P.cellF) C g cap base TS pv ([] ++ [P.here TS]) (left (rV TS)) w vi wr pvj psj m vals r ∧ Blk wr R 29 #[.string ⟨#[]⟩, .int .i64 0, .slice none 0 0, .slice none 0 0, .int .i64 0, .int .i64 0, .int .i64 0, .string ⟨#[]⟩, .int .i64 0, .slice none 0 0] ∧ Blk wr B 29 #[.string X, .int .i64 vn, vi, .slice none 0 0, .int .i64 0, .int .i64 0, .int .i64 0, .string ⟨#[]⟩, .int .i64 0, .slice none 0 0]
/-- What the loop over threads keeps. -/
def ThrR (C g cap base : Nat) (TS : List Tok) (pv : Value) (ps : List Nat) (R B : Nat) (X : ByteArray) (vn : Int) (vi : Value) (w wr : World) : Prop :=
  ∃ vt pvj psj m vals r, Mb 1 hd1 IsSs 56 B (P.runF P.isThr P.threadF) C g cap base TS pv ps (left (rI TS)) w vt wr pvj psj m vals r ∧ Blk wr R 29 #[.string ⟨#[]⟩, .int .i64 0, .slice none 0 0, .slice none 0 0, .int .i64 0, .int .i64 0, .int .i64 0, .string ⟨#[]⟩, .int .i64 0, .slice none 0 0] ∧ Blk wr B 29 #[.string X, .int .i64 vn, vi, vt, .int .i64 0, .int .i64 0, .int .i64 0, .string ⟨#[]⟩, .int .i64 0, .slice none 0 0]
def badv : Sta → Int
  | .ok _ => -1
  | .error q => (q : Nat)
/-- What program tells: a program's form, what is wrong, the places; and, if the tokens make a program, that one and its places. -/
def ProgC (C base : Nat) (TS : List Tok) (pv : Value) (w : World) (e : Ending) (w' : World) : Prop :=
  ∃ v pv' ps', e = .returned v ∧ AnyPg v ∧ (∃ x y, Blk w' C 65 #[x, y, .int .i64 (badv (sE TS)), pv']) ∧ OwnP w' base pv' ps' ∧ Only (Pb C pv) w w' ∧ Fr pv pv' w.heap.size ∧ ∀ p qs, Steps TS p qs → ps' = qs ∧ LPg (Nw w.heap.size pv') w' v p
theorem need_tail {s : List UInt8} {ts : List Tok} (h : P.isS s ts = true) : onNeed s (.ok ts) = tl (.ok ts) := onNeed_yes h
set_option maxHeartbeats 25600000 in
theorem program_c (C g cap base : Nat) (TS : List Tok) (pv : Value) (w : World) (h : Cs w C g cap TS pv (.ok TS)) (hp : OwnP w base pv []) (hg : g < base) (hbase : base ≤ w.heap.size) :
    Calls Try.prog 19 #[.pointer (some ⟨C, 0, none⟩)] w (ProgC C base TS pv w) := by
  obtain ⟨hCl, hgl⟩ := h.lts
  have H0 := Lib.hid (Cq.start h hp)
  obtain ⟨i0, hi, hz0, hz1, hz2⟩ := info_parts Try.infoInt
  have HI0 := Lib.hid hi
  have HZ0 := Lib.hid hz0
  have HZ1 := Lib.hid hz1
  have HZ2 := Lib.hid hz2
  obtain ⟨i1, hi, hz0', hz1', hz2'⟩ := info_parts Try.infoCe
  have HJ0 := Lib.hid hi
  have HY0 := Lib.hid hz0'
  have HY1 := Lib.hid hz1'
  have HY2 := Lib.hid hz2'
  obtain ⟨i2, hi', hz0'', hz1'', hz2''⟩ := info_parts Try.infoSl
  have HK0 := Lib.hid hi'
  have HW0 := Lib.hid hz0''
  have HW1 := Lib.hid hz1''
  have HW2 := Lib.hid hz2''
  clear hi hi' hz0 hz1 hz2 hz0' hz1' hz2' hz0'' hz1'' hz2'' h hp
  go_enter Try.func19, Try.ntmps19
  go_upto_region 2 with (fail)
  have hbA : Below w.heap.size w ((w.alloc (.cells #[.string ⟨#[]⟩, .int .i64 0, .slice none 0 0, .slice none 0 0, .int .i64 0, .int .i64 0, .int .i64 0, .string ⟨#[]⟩, .int .i64 0, .slice none 0 0] 29)).alloc (.cells #[.string ⟨#[]⟩, .int .i64 0, .slice none 0 0, .slice none 0 0, .int .i64 0, .int .i64 0, .int .i64 0, .string ⟨#[]⟩, .int .i64 0, .slice none 0 0] 29)) := ((Below.refl _ _).alloc (Nat.le_refl _) _).alloc (by simp) _
  have HR1 := Lib.hid ((Blk.new w 29 #[.string ⟨#[]⟩, .int .i64 0, .slice none 0 0, .slice none 0 0, .int .i64 0, .int .i64 0, .int .i64 0, .string ⟨#[]⟩, .int .i64 0, .slice none 0 0]).alloc (.cells #[.string ⟨#[]⟩, .int .i64 0, .slice none 0 0, .slice none 0 0, .int .i64 0, .int .i64 0, .int .i64 0, .string ⟨#[]⟩, .int .i64 0, .slice none 0 0] 29))
  have hB0 := Blk.new (w.alloc (.cells #[.string ⟨#[]⟩, .int .i64 0, .slice none 0 0, .slice none 0 0, .int .i64 0, .int .i64 0, .int .i64 0, .string ⟨#[]⟩, .int .i64 0, .slice none 0 0] 29)) 29 #[.string ⟨#[]⟩, .int .i64 0, .slice none 0 0, .slice none 0 0, .int .i64 0, .int .i64 0, .int .i64 0, .string ⟨#[]⟩, .int .i64 0, .slice none 0 0]
  rw [show (w.alloc (.cells #[.string ⟨#[]⟩, .int .i64 0, .slice none 0 0, .slice none 0 0, .int .i64 0, .int .i64 0, .int .i64 0, .string ⟨#[]⟩, .int .i64 0, .slice none 0 0] 29)).heap.size = w.heap.size + 1 by simp] at hB0
  have HB1 := Lib.hid hB0
  have H1 := Lib.hid (H0.out.call (Only.of_below hbA) (H0.out.dc.below hbA))
  have hs1 : w.heap.size + 1 < ((w.alloc (.cells #[.string ⟨#[]⟩, .int .i64 0, .slice none 0 0, .slice none 0 0, .int .i64 0, .int .i64 0, .int .i64 0, .string ⟨#[]⟩, .int .i64 0, .slice none 0 0] 29)).alloc (.cells #[.string ⟨#[]⟩, .int .i64 0, .slice none 0 0, .slice none 0 0, .int .i64 0, .int .i64 0, .int .i64 0, .string ⟨#[]⟩, .int .i64 0, .slice none 0 0] 29)).heap.size := HB1.out.lt
  clear hbA hB0 H0
  generalize (w.alloc (.cells #[.string ⟨#[]⟩, .int .i64 0, .slice none 0 0, .slice none 0 0, .int .i64 0, .int .i64 0, .int .i64 0, .string ⟨#[]⟩, .int .i64 0, .slice none 0 0] 29)).alloc (.cells #[.string ⟨#[]⟩, .int .i64 0, .slice none 0 0, .slice none 0 0, .int .i64 0, .int .i64 0, .int .i64 0, .string ⟨#[]⟩, .int .i64 0, .slice none 0 0] 29) = w1 at *
  generalize hBe : w.heap.size + 1 = B at *
  generalize hSe : w.heap.size = R at *
  have hRw : w.heap.size ≤ R := by omega
  have hRw' : R ≤ w.heap.size := by omega
  have hRB : R < B := by omega
  clear hSe hBe
  go_cut [5] (fun s wx => PartB w w1 R B #[.string ⟨#[]⟩, .int .i64 0, .slice none 0 0, .slice none 0 0, .int .i64 0, .int .i64 0, .int .i64 0, .string ⟨#[]⟩, .int .i64 0, .slice none 0 0] #[.string ⟨#[]⟩, .int .i64 0, .slice none 0 0, .slice none 0 0, .int .i64 0, .int .i64 0, .int .i64 0, .string ⟨#[]⟩, .int .i64 0, .slice none 0 0] C g cap base TS pv pv [] (.ok TS) wx)
  case first =>
    obtain ⟨k, bad, t, hkl, hmx, hblk, ⟨t0, t1, t2, t3⟩, hst, hhere⟩ := H1.out.dc.tok
    obtain ⟨c0, c1, c2, c3, _, _, _, f3⟩ := four_free hblk
    have HCB := Lib.hid hblk
    have HH := Lib.hid (fun ts hh => (hhere ts hh).1)
    obtain ⟨tk, tx, tn, ta⟩ := t
    simp only at t0 t1 t2 t3
    clear c2 hst hhere t0 t1 t2 hblk
    have HOW := Lib.hid H1.out.own
    have hpsl : (([] : List Nat)).length ≤ 40000 := by first | omega | (simp; done) | (simp; omega)
    have HKP := Lib.hid (fun w2 wg g2 cp2 n x => H1.out.kept (w2 := w2) (wg := wg) (g2 := g2) (cp2 := cp2) (n := n) (x := x) hg)
    have HNE := Lib.hid (own_ne (t' := 65) H1.out.own HCB.out (by decide))
    have HNR := Lib.hid (H1.out.far HR1.out (by decide) (by decide))
    have HNB := Lib.hid (H1.out.far HB1.out (by decide) (by decide))
    have lR := HR1.out.lt
    have lB := HB1.out.lt
    obtain ⟨ap, cp, rfl⟩ := slice_of_own H1.out.own
    have m1 : (0 : Int) ≤ (k : Int) := by omega
    have m2 : (k : Int) < (TS.length : Int) := by omega
    have hCw : C < w1.heap.size := HCB.out.lt
    have hCn : ¬ C = w1.heap.size := by omega
    have hRC : R ≠ C := fun e => HNR.out (.inl e)
    have hBC : B ≠ C := fun e => HNB.out (.inl e)
    go_region_law (first
      | (refine step_append_lies _ (by rfl) (.tmp 9) (.tmp 21) 35 (by rfl) base 3 i0 (.int .i64 0) 1 8 Try.underlying35 HI0.out HZ0.out HZ1.out HZ2.out rfl (by omega) _ (([] : List Nat)).length (nums (([] : List Nat))) (by rfl) (HOW.out.alloc _) ⟨w1.heap.size, 0, none⟩ 1 1 [.int .i64 (ta : Nat)] (by rfl) rfl (one_new w1 _ _) (one_one _) (by omega) (by unfold maxLen; omega) (by omega) (by simp; omega) (w1.heap.size + 1) (by simp) ?_; intro g2 cp2 w2 hown2 hgrow2 hat2 hlt2; have hB2 := (hgrow2.block C (by simp; omega) (fun e => HNE.out e.symm)).trans (HCB.out.alloc _); have d2 : w2.cell? ⟨C, 3, none⟩ = some _ := Blk.cell hB2 3; have e2 : w2.frozen? ⟨C, 3, none⟩ = false := Blk.free hB2 3))
    all_goals
      go_wp2_with fail
      go_meet
      case rel =>
        have hsz := hgrow2.size
        simp at hsz
        exact ⟨_, ta, HKP.out _ _ _ _ _ _ (((Only.refl _ w1).alloc _).drew) hgrow2 hown2 rfl hat2, fun ts hh => (HH.out ts hh).symm, Blk.far ((hgrow2.block R (by simp; omega) (fun e => HNR.out (.inr e.symm))).trans (HR1.out.alloc _)) hRC _, Blk.far ((hgrow2.block B (by simp; omega) (fun e => HNB.out (.inr e.symm))).trans (HB1.out.alloc _)) hBC _, by simp; omega, ((((Only.refl (Pb C (.slice ap (([] : List Nat)).length cp)) w1).alloc _).drew).grown' hgrow2 (fun k hk => .inl (.inr hk))).setCell (p := ⟨C, 3, none⟩) (.inl (.inl rfl)) _, fun j hj => by
          cases hj
          rcases hat2 with e | e
          · exact .inl e
          · exact .inr (by show w1.heap.size ≤ g2; omega)⟩
  case rest =>
  obtain ⟨pv2, x0, hq2, hx0, hr2, hb2, hs2, _, _⟩ := hcut
  obtain rfl := hx0 TS rfl
  have H2 := Lib.hid hq2
  have HR2 := Lib.hid hr2
  have HB2 := Lib.hid hb2
  clear hq2 hr2 hb2 hx0 H1 HR1 HB1
  go_wp2_with fail
  with_reducible refine (need_c C g cap TS pv2 (.ok TS) ⟨#[108, 105, 116, 109, 117, 115]⟩ _ H2.out.dc).mono ?_
  rintro e w3 ⟨rfl, hd, ho⟩
  have HR3 := Lib.hid (HR2.out.only ho (fun e => H2.out.far HR2.out (by decide) (by decide) (.inl e)))
  have HB3 := Lib.hid (HB2.out.only ho (fun e => H2.out.far HB2.out (by decide) (by decide) (.inl e)))
  have H3 := Lib.hid (H2.out.call (st2 := s1 TS) ho hd)
  have hs3 := ho.size
  clear hd ho HR2 HB2
  go_wp2_with fail
  with_reducible refine (name_c C g cap TS pv2 (s1 TS) _ H3.out.dc).mono ?_
  rintro e w4 ⟨v, rfl, ⟨X, rfl⟩, hd, ho, hm⟩
  have HR4 := Lib.hid (HR3.out.only ho (fun e => H3.out.far HR3.out (by decide) (by decide) (.inl e)))
  have HB4 := Lib.hid (HB3.out.only ho (fun e => H3.out.far HB3.out (by decide) (by decide) (.inl e)))
  have H4 := Lib.hid (H3.out.call (st2 := left (rN TS)) ho hd)
  have hs4 := ho.size
  have HTn := Lib.hid hm
  clear hm
  clear hd ho HR3 HB3
  obtain ⟨⟨c0, c1, c2, c3, c4, c5, c6, c7, c8, c9⟩, f0, f1, f2, f3, f4, f5, f6, f7, f8, f9⟩ := ten_free HB4.out
  go_wp2_with fail
  clear c0 c1 c2 c3 c4 c5 c6 c7 c8 c9 f0 f1 f2 f3 f4 f5 f6 f7 f8 f9
  have HR5 := Lib.hid (HR4.out.only (only_set w4 B 0 (.string X)) (by omega))
  have H5 := Lib.hid (H4.out.put (t := 29) (by decide) (by decide) (by omega) (by omega) HB4.out 0 (.string X))
  have HB5 := Lib.hid (ten0 HB4.out (.string X))
  have hs5 := (only_set w4 B 0 (.string X)).size
  clear HR4 HB4
  generalize w4.setCell ⟨B, 0, none⟩ (.string X) = w5 at *
  with_reducible refine (need_c C g cap TS pv2 (left (rN TS)) ⟨#[118, 97, 108, 117, 101, 115]⟩ _ H5.out.dc).mono ?_
  rintro e w6 ⟨rfl, hd, ho⟩
  have HR6 := Lib.hid (HR5.out.only ho (fun e => H5.out.far HR5.out (by decide) (by decide) (.inl e)))
  have HB6 := Lib.hid (HB5.out.only ho (fun e => H5.out.far HB5.out (by decide) (by decide) (.inl e)))
  have H6 := Lib.hid (H5.out.call (st2 := s3 TS) ho hd)
  have hs6 := ho.size
  clear hd ho HR5 HB5
  go_wp2_with fail
  with_reducible refine (number_c C g cap TS pv2 (s3 TS) _ H6.out.dc).mono ?_
  rintro e w7 ⟨v, rfl, ⟨vn, rfl⟩, hd, ho, hm⟩
  have HR7 := Lib.hid (HR6.out.only ho (fun e => H6.out.far HR6.out (by decide) (by decide) (.inl e)))
  have HB7 := Lib.hid (HB6.out.only ho (fun e => H6.out.far HB6.out (by decide) (by decide) (.inl e)))
  have H7 := Lib.hid (H6.out.call (st2 := left (rV TS)) ho hd)
  have hs7 := ho.size
  have HTv := Lib.hid hm
  clear hm
  clear hd ho HR6 HB6
  obtain ⟨⟨c0, c1, c2, c3, c4, c5, c6, c7, c8, c9⟩, f0, f1, f2, f3, f4, f5, f6, f7, f8, f9⟩ := ten_free HB7.out
  go_upto_region 7 with (fail)
  clear c0 c1 c2 c3 c4 c5 c6 c7 c8 c9 f0 f1 f2 f3 f4 f5 f6 f7 f8 f9
  have HR8 := Lib.hid (HR7.out.only (only_set w7 B 1 (.int .i64 vn)) (by omega))
  have H8 := Lib.hid (H7.out.put (t := 29) (by decide) (by decide) (by omega) (by omega) HB7.out 1 (.int .i64 vn))
  have HB8 := Lib.hid (ten1 HB7.out (.int .i64 vn))
  have hs8 := (only_set w7 B 1 (.int .i64 vn)).size
  clear HR7 HB7
  generalize w7.setCell ⟨B, 1, none⟩ (.int .i64 vn) = w8 at *
  have hsl8 := H8.out.dc.slen
  have lB8 := HB8.out.lt
  have lR8 := HR8.out.lt
  have hBC : B ≠ C := fun e => H8.out.far HB8.out (by decide) (by decide) (.inl e)
  have HIS := Lib.hid (show InitR C g cap base TS pv2 R B X vn w8 w8 from ⟨_, _, _, _, _, _, Mb.start (sz := 2) (mk := agg) (Val := LE) (ty := 68) (B := B) (tot := P.runF P.isInit P.cellF) H8.out.dc H8.out.own, HR8.out, HB8.out⟩)
  go_loopw [4] (fun _ wr => InitR C g cap base TS pv2 R B X vn w8 wr) (fun _ wr => qAt TS.length C wr)
  case atStart => exact HIS.out
  case round =>
    obtain ⟨vi, pvj, psj, m, vals, r, hM, hr, hb⟩ := hrel
    have HM := Lib.hid hM
    have HRj := Lib.hid hr
    have HBj := Lib.hid hb
    have HLN := Lib.hid hM.dc.qAt
    have hsz := hM.only.size
    have hcnt := hM.cnt
    have hbnd := hM.bound
    obtain ⟨a, c, rfl⟩ := slice_of_own hM.own
    clear hM hr hb
    go_wp2_with fail
    have hcall := is_c C g cap TS pvj (left r) ⟨#[105, 110, 105, 116]⟩ _ HM.out.dc
    with_reducible refine hcall.mono ?_
    rintro e w10 ⟨rfl, hbl⟩
    rw [show by' (⟨#[105, 110, 105, 116]⟩ : ByteArray) = [105, 110, 105, 116] from rfl]
    clear hcall
    have hs10 := hbl.size
    have HM10 := Lib.hid (HM.out.below leStep hbl)
    have HR10 := Lib.hid (HRj.out.live' hbl)
    have HB10 := Lib.hid (HBj.out.live' hbl)
    clear hbl HM HRj HBj
    cases hE : onIs [105, 110, 105, 116] (left r) with
    | true =>
      rcases r with q | ⟨⟨es, qs⟩, ts⟩
      · cases hE
      have hts : left (.ok ((es, qs), ts) : P.Res (List CE × List Nat)) = .ok ts := rfl
      rw [hts] at hcnt hbnd HLN
      have hE' : P.isS [105, 110, 105, 116] ts = true := hE
      have HEE := Lib.hid hE'
      have Q10 := Lib.hid (Cq.start (ps := psj) (show Cs w10 C g cap TS pvj (.ok ts) from HM10.out.dc) HM10.out.pl)
      have hlive : 0 < ts.length := Q10.out.dc.live
      have hslt : slen (.ok ts : Sta) = ts.length := rfl
      have lR10 := HR10.out.lt
      have lB10 := HB10.out.lt
      have hltc := slen_less P.cellF_less hlive
      have hpj : psj.length ≤ 20000 := by
        have h1 : psj.length + slen (.ok ts : Sta) ≤ 1 + slen (left (rV TS)) := by simpa using hbnd
        omega
      clear hE hE' hts
      go_upto_region 8 with (fail)
      go_cut [37] from 35 to 75 (fun s wx => PartB w10 w10 R B #[.string ⟨#[]⟩, .int .i64 0, .slice none 0 0, .slice none 0 0, .int .i64 0, .int .i64 0, .int .i64 0, .string ⟨#[]⟩, .int .i64 0, .slice none 0 0] #[.string X, .int .i64 vn, .slice a m c, .slice none 0 0, .int .i64 0, .int .i64 0, .int .i64 0, .string ⟨#[]⟩, .int .i64 0, .slice none 0 0] C g cap base TS pvj pvj psj (.ok ts) wx)
      case first =>
        obtain ⟨k, bad, t, hkl, hmx, hblk, ⟨t0, t1, t2, t3⟩, hst, hhere⟩ := Q10.out.dc.tok
        obtain ⟨c0, c1, c2, c3, _, _, _, f3⟩ := four_free hblk
        have HCB := Lib.hid hblk
        have HH := Lib.hid (fun ts hh => (hhere ts hh).1)
        obtain ⟨tk, tx, tn, ta⟩ := t
        simp only at t0 t1 t2 t3
        clear c2 hst hhere t0 t1 t2 hblk
        have HOW := Lib.hid Q10.out.own
        have hpsl : (psj).length ≤ 40000 := by first | omega | (simp; done) | (simp; omega)
        have HKP := Lib.hid (fun w2 wg g2 cp2 n x => Q10.out.kept (w2 := w2) (wg := wg) (g2 := g2) (cp2 := cp2) (n := n) (x := x) hg)
        have HNE := Lib.hid (own_ne (t' := 65) Q10.out.own HCB.out (by decide))
        have HNR := Lib.hid (Q10.out.far HR10.out (by decide) (by decide))
        have HNB := Lib.hid (Q10.out.far HB10.out (by decide) (by decide))
        have lR := HR10.out.lt
        have lB := HB10.out.lt
        obtain ⟨ap, cp, rfl⟩ := slice_of_own Q10.out.own
        have m1 : (0 : Int) ≤ (k : Int) := by omega
        have m2 : (k : Int) < (TS.length : Int) := by omega
        have hCw : C < w10.heap.size := HCB.out.lt
        have hCn : ¬ C = w10.heap.size := by omega
        have hRC : R ≠ C := fun e => HNR.out (.inl e)
        have hBC : B ≠ C := fun e => HNB.out (.inl e)
        go_region_law (first
          | (refine step_append_lies _ (by rfl) (.tmp 41) (.tmp 53) 35 (by rfl) base 3 i0 (.int .i64 0) 1 8 Try.underlying35 HI0.out HZ0.out HZ1.out HZ2.out rfl (by omega) _ (psj).length (nums (psj)) (by rfl) (HOW.out.alloc _) ⟨w10.heap.size, 0, none⟩ 1 1 [.int .i64 (ta : Nat)] (by rfl) rfl (one_new w10 _ _) (one_one _) (by omega) (by unfold maxLen; omega) (by omega) (by simp; omega) (w10.heap.size + 1) (by simp) ?_; intro g2 cp2 w2 hown2 hgrow2 hat2 hlt2; have hB2 := (hgrow2.block C (by simp; omega) (fun e => HNE.out e.symm)).trans (HCB.out.alloc _); have d2 : w2.cell? ⟨C, 3, none⟩ = some _ := Blk.cell hB2 3; have e2 : w2.frozen? ⟨C, 3, none⟩ = false := Blk.free hB2 3))
        all_goals
          go_wp2_with fail
          go_meet
          case rel =>
            have hsz := hgrow2.size
            simp at hsz
            exact ⟨_, ta, HKP.out _ _ _ _ _ _ (((Only.refl _ w10).alloc _).drew) hgrow2 hown2 rfl hat2, fun ts hh => (HH.out ts hh).symm, Blk.far ((hgrow2.block R (by simp; omega) (fun e => HNR.out (.inr e.symm))).trans (HR10.out.alloc _)) hRC _, Blk.far ((hgrow2.block B (by simp; omega) (fun e => HNB.out (.inr e.symm))).trans (HB10.out.alloc _)) hBC _, by simp; omega, ((((Only.refl (Pb C (.slice ap (psj).length cp)) w10).alloc _).drew).grown' hgrow2 (fun k hk => .inl (.inr hk))).setCell (p := ⟨C, 3, none⟩) (.inl (.inl rfl)) _, fun j hj => by
              cases hj
              rcases hat2 with e | e
              · exact .inl e
              · exact .inr (by show w10.heap.size ≤ g2; omega)⟩
      case rest =>
      obtain ⟨pv11, x1, hq2, hx0, hr2, hb2, hs11, _, _⟩ := hcut
      obtain rfl := hx0 ts rfl
      have Q11 := Lib.hid hq2
      have HR11 := Lib.hid hr2
      have HB11 := Lib.hid hb2
      clear hq2 hr2 hb2 hx0
      obtain ⟨kp, x1', y1, hkp, hcs⟩ := Q11.out.dc.past (s := [105, 110, 105, 116]) HEE.out
      have HCS := Lib.hid hcs
      clear hcs
      go_wp2_with fail
      clear x1' y1
      have HR12 := Lib.hid (HR11.out.only (only_at wc C (.int .i64 ((kp : Int) + 1))) (fun e => Q11.out.far HR11.out (by decide) (by decide) (.inl e)))
      have HB12 := Lib.hid (HB11.out.only (only_at wc C (.int .i64 ((kp : Int) + 1))) (fun e => Q11.out.far HB11.out (by decide) (by decide) (.inl e)))
      have Q12 := Lib.hid (Q11.out.call (only_at wc C (.int .i64 ((kp : Int) + 1))) HCS.out)
      have hs12 := (only_at wc C (.int .i64 ((kp : Int) + 1))).size
      clear HCS HR11 HB11
      generalize wc.setCell ⟨C, 1, none⟩ (.int .i64 ((kp : Int) + 1)) = w12 at *
      with_reducible refine (name_c C g cap TS pv11 (tl (.ok ts)) _ Q12.out.dc).mono ?_
      rintro e w13 ⟨v, rfl, ⟨sl, rfl⟩, hd, ho, hm⟩
      have HR13 := Lib.hid (HR12.out.only ho (fun e => Q12.out.far HR12.out (by decide) (by decide) (.inl e)))
      have HB13 := Lib.hid (HB12.out.only ho (fun e => Q12.out.far HB12.out (by decide) (by decide) (.inl e)))
      have Q13 := Lib.hid (Q12.out.call ho hd)
      have HNM := Lib.hid hm
      have hs13 := ho.size
      clear hd ho hm HR12 HB12
      go_wp2_with fail
      have hbA : Below w13.heap.size w13 (w13.alloc (.cells #[.string sl, .int .i64 0] 68)) := (Below.refl _ _).alloc (Nat.le_refl _) _
      have HX14 := Lib.hid (Blk.new w13 68 #[.string sl, .int .i64 0])
      have HR14 := Lib.hid (HR13.out.live' hbA)
      have HB14 := Lib.hid (HB13.out.live' hbA)
      have Q14 := Lib.hid (Q13.out.call (Only.of_below hbA) (Q13.out.dc.below hbA))
      have hs14 : w13.heap.size < (w13.alloc (.cells #[.string sl, .int .i64 0] 68)).heap.size := HX14.out.lt
      clear hbA HR13 HB13
      generalize w13.alloc (.cells #[.string sl, .int .i64 0] 68) = w14 at *
      generalize hXe : w13.heap.size = XB at *
      have hX1 : w13.heap.size ≤ XB := by omega
      have hX2 : XB ≤ w13.heap.size := by omega
      clear hXe
      with_reducible refine (number_c C g cap TS pv11 _ _ Q14.out.dc).mono ?_
      rintro e w15 ⟨v, rfl, ⟨nu, rfl⟩, hd, ho, hm⟩
      have HR15 := Lib.hid (HR14.out.only ho (fun e => Q14.out.far HR14.out (by decide) (by decide) (.inl e)))
      have HB15 := Lib.hid (HB14.out.only ho (fun e => Q14.out.far HB14.out (by decide) (by decide) (.inl e)))
      have HX15 := Lib.hid (HX14.out.only ho (fun e => Q14.out.far HX14.out (by decide) (by decide) (.inl e)))
      have Q15 := Lib.hid (Q14.out.call ho hd)
      have HNU := Lib.hid hm
      have hs15 := ho.size
      clear hd ho hm HR14 HB14 HX14
      obtain ⟨d0, d1, e0, e1⟩ := two_free' HX15.out
      go_upto_region 12 with (fail)
      clear d0 d1 e0 e1
      have HR16 := Lib.hid (HR15.out.only (only_set w15 XB 1 (.int .i64 nu)) (by omega))
      have HB16 := Lib.hid (HB15.out.only (only_set w15 XB 1 (.int .i64 nu)) (by omega))
      have Q16 := Lib.hid (Q15.out.put (t := 68) (by decide) (by decide) (by omega) (by omega) HX15.out 1 (.int .i64 nu))
      have HX16 := Lib.hid (show Blk (w15.setCell ⟨XB, 1, none⟩ (.int .i64 nu)) XB 68 #[.string sl, .int .i64 nu] from HX15.out.set 1 _)
      have hs16 := (only_set w15 XB 1 (.int .i64 nu)).size
      clear HR15 HB15 HX15
      generalize w15.setCell ⟨XB, 1, none⟩ (.int .i64 nu) = w16 at *
      have HCE := Lib.hid (cell_eq ts)
      rw [need_tail HEE.out] at HCE
      have hown16 := own_only HM10.out.own Q16.out.only (by
        intro k hk
        rintro (e | e)
        · have := (HM10.out.own.lt k hk).1
          omega
        · exact own_types HM10.out.own HM10.out.pl (by decide) k hk e)
      have HTT := Lib.hid (P.runF_more (may := P.isInit) (one := P.cellF) rfl P.cellF_less HEE.out)
      have HST := Lib.hid (fun (w3 : World) (oo : Obj) (g2 cap2 : Nat) hgr how hat => Mb.step (one := P.cellF ts) (w2 := w3) (o := oo) (g2 := g2) (cap2 := cap2) (cs := [.string sl, .int .i64 nu]) leStep (by decide) (by omega) (by omega) HM10.out HTT.out (fun a r hh => P.cellF_less _ _ _ hh) rfl (show Cs w16 C g cap TS pv11 (left (P.cellF ts)) by rw [HCE.out.1]; exact Q16.out.dc) Q16.out.own (by simp; omega) Q16.out.only Q16.out.fr (fun a q t2 hh => by
        obtain ⟨l, rr, n, h1, h2, rfl, rfl⟩ := HCE.out.2 a q t2 hh
        have e1 := HNM.out l rr h1
        injection e1 with e1
        have e2 := HNU.out n t2 h2
        injection e2 with _ e2
        subst e1
        subst e2
        exact ⟨rfl, rfl⟩) hgr how hat)
      have hlB : B < w16.heap.size := HB16.out.lt
      have hvB : (Value.slice a m c).ownBlock ≠ some B := fun e => by have := (HM10.out.own.lt B e).1; omega
      have HVB := Lib.hid hvB
      clear hvB
      obtain ⟨d0, d1, e0, e1⟩ := two_free' HX16.out
      obtain ⟨⟨c0, c1, c2, c3, c4, c5, c6, c7, c8, c9⟩, f0, f1, f2, f3, f4, f5, f6, f7, f8, f9⟩ := ten_free HB16.out
      go_wp2_with (at_builtin; refine wpList_append_lies _ rfl (.tmp 71) (.tmp 73) 23 rfl w8.heap.size 68 i1 (.agg #[.string ⟨#[]⟩, .int .i64 0]) 2 24 Try.underlying23 HJ0.out HY0.out HY1.out HY2.out rfl (by decide) (.slice a m c) m vals rfl (hown16.alloc _) ⟨w16.heap.size, 0, none⟩ 1 1 [.string sl, .int .i64 nu] rfl rfl (cells_new _ #[.string sl, .int .i64 nu] _) (two_one _ _) (by decide) (by unfold maxLen; omega) (by omega) (by simp; omega) (w16.heap.size + 1) (by simp) ?_; intro g3 c3' w17 hown3 hgrow3 hat3 hlt3; have hB17 := (hgrow3.block B (by simp; omega) (fun e => HVB.out e.symm)).trans (HB16.out.alloc (.cells #[.string sl, .int .i64 nu] 68)); have d2 : w17.cell? ⟨B, 2, none⟩ = some _ := Blk.cell hB17 2; have e2 : w17.frozen? ⟨B, 2, none⟩ = false := Blk.free hB17 2)
      have HN := Lib.hid (HST.out w17 _ g3 c3' hgrow3 hown3 hat3)
      have hlR : R < w16.heap.size := HR16.out.lt
      have hvR : (Value.slice a m c).ownBlock ≠ some R := fun e => by have := (HM10.out.own.lt R e).1; omega
      have HR17 := Lib.hid ((hgrow3.block R (by simp; omega) (fun e => hvR e.symm)).trans (HR16.out.alloc (.cells #[.string sl, .int .i64 nu] 68)))
      have HB17 := Lib.hid hB17
      clear hown3 hgrow3 hat3 hB17 hvR
      go_wp2_with fail
      have hpB : pv11.ownBlock ≠ some B := own_ne (t' := 29) HN.out.1.pl HB17.out (by decide)
      have HN2 := Lib.hid (HN.out.1.far leStep (by omega) hBC (by omega) hpB (only_set w17 B 2 (.slice (some ⟨g3, 0, none⟩) (m + 1) c3')))
      have HR18 := Lib.hid (Blk.only HR17.out (only_set w17 B 2 (.slice (some ⟨g3, 0, none⟩) (m + 1) c3')) (by omega))
      have HB18 := Lib.hid (ten2 HB17.out (.slice (some ⟨g3, 0, none⟩) (m + 1) c3'))
      go_roundw
      case rel => exact ⟨_, _, _, _, _, _, HN2.out, HR18.out, HB18.out⟩
      case measure =>
        rw [HN2.out.dc.qAt, HLN.out]
        exact HN.out.2

    | false =>
      have er : rI TS = r := HM10.out.sum.trans (P.Gl_stop fun a ts e => by subst e; exact hE)
      subst er
      have H10 := Lib.hid (H8.out.loop HM10.out (by omega))
      have HPI := Lib.hid (fun es qs ts (hh : rI TS = .ok ((es, qs), ts)) => (HM10.out.live es qs ts hh).1)
      have HI10 := Lib.hid (fun es qs ts (hh : rI TS = .ok ((es, qs), ts)) => (show IsEs (NwB R pvj B R) w10 (.slice a m c) es from IsEs.step (fun b hb hl => ⟨⟨by have := hb.1; omega, hb.2, by have := hb.1; omega, by have := hb.1; omega⟩, rfl⟩) (show IsEs (Nw w8.heap.size pvj) w10 (.slice a m c) es by
        have h1 := HM10.out
        rw [hh] at h1
        exact h1.isEs)))
      have hb3 : psj.length + slen (left (rI TS)) ≤ 1 + slen (left (rV TS)) := by simpa using hbnd
      clear hE hcnt hbnd HLN HM10
      have lR10 := HR10.out.lt
      have lB10 := HB10.out.lt
      have HTS := Lib.hid (show ThrR C g cap base TS pvj psj R B X vn (.slice a m c) w10 w10 from ⟨_, _, _, _, _, _, Mb.start (sz := 1) (mk := hd1) (Val := IsSs) (ty := 56) (B := B) (tot := P.runF P.isThr P.threadF) H10.out.dc H10.out.own, HR10.out, HB10.out⟩)
      have hsl10 := H10.out.dc.slen
      go_upto_region 13 with (fail)
      go_loopw [78] (fun _ wr => ThrR C g cap base TS pvj psj R B X vn (.slice a m c) w10 wr) (fun _ wr => qAt TS.length C wr)
      case atStart => exact HTS.out
      case round =>

        obtain ⟨vt, pvk, psk, m2, vals2, r2, hM, hr, hb⟩ := hrel
        have HM := Lib.hid hM
        have HRj := Lib.hid hr
        have HBj := Lib.hid hb
        have HLN := Lib.hid hM.dc.qAt
        have hsz2 := hM.only.size
        have hcnt := hM.cnt
        have hbnd := hM.bound
        obtain ⟨a2, q2, rfl⟩ := slice_of_own hM.own
        clear hM hr hb
        go_wp2_with fail
        have hcall := is_c C g cap TS pvk (left r2) ⟨#[116, 104, 114, 101, 97, 100]⟩ _ HM.out.dc
        with_reducible refine hcall.mono ?_
        rintro e w11 ⟨rfl, hbl⟩
        rw [show by' (⟨#[116, 104, 114, 101, 97, 100]⟩ : ByteArray) = [116, 104, 114, 101, 97, 100] from rfl]
        clear hcall
        have hs11 := hbl.size
        have HM11 := Lib.hid (HM.out.below issStep hbl)
        have HR11 := Lib.hid (HRj.out.live' hbl)
        have HB11 := Lib.hid (HBj.out.live' hbl)
        clear hbl HM HRj HBj
        cases hE : onIs [116, 104, 114, 101, 97, 100] (left r2) with
        | true =>
          rcases r2 with q | ⟨⟨es, qs⟩, ts⟩
          · cases hE
          have hts : left (.ok ((es, qs), ts) : P.Res (List (List ST) × List Nat)) = .ok ts := rfl
          rw [hts] at hcnt hbnd HLN
          have hE' : P.isS [116, 104, 114, 101, 97, 100] ts = true := hE
          have HEE := Lib.hid hE'
          have Q11 := Lib.hid (Cq.start (ps := psk) (show Cs w11 C g cap TS pvk (.ok ts) from HM11.out.dc) HM11.out.pl)
          have hlive : 0 < ts.length := Q11.out.dc.live
          have hslt : slen (.ok ts : Sta) = ts.length := rfl
          have hltc := slen_less P.threadF_less hlive
          clear hE hE' hts
          obtain ⟨kp, x1', y1, hkp, hcs⟩ := Q11.out.dc.past (s := [116, 104, 114, 101, 97, 100]) HEE.out
          have HCS := Lib.hid hcs
          clear hcs
          go_upto_region 15 with (fail)
          clear x1' y1
          have HR12 := Lib.hid (HR11.out.only (only_at w11 C (.int .i64 ((kp : Int) + 1))) (fun e => Q11.out.far HR11.out (by decide) (by decide) (.inl e)))
          have HB12 := Lib.hid (HB11.out.only (only_at w11 C (.int .i64 ((kp : Int) + 1))) (fun e => Q11.out.far HB11.out (by decide) (by decide) (.inl e)))
          have Q12 := Lib.hid (Q11.out.call (only_at w11 C (.int .i64 ((kp : Int) + 1))) HCS.out)
          have hs12 := (only_at w11 C (.int .i64 ((kp : Int) + 1))).size
          clear HCS HR11 HB11
          generalize w11.setCell ⟨C, 1, none⟩ (.int .i64 ((kp : Int) + 1)) = w12 at *
          have hslt2 := slen_tl (.ok ts : Sta)
          have hdsz : w12.drew.heap.size = w12.heap.size := rfl
          have HBK := Lib.hid (blockTot_c C g cap base TS pvk psk (tl (.ok ts)) w12.drew Q12.out.dc.drew (show OwnP w12.drew base pvk psk from Q12.out.own) hg (by omega) (by omega))
          have HTE := Lib.hid (thread_eq ts)
          rw [need_tail HEE.out] at HTE
          have HTT := Lib.hid (P.runF_more (may := P.isThr) (one := P.threadF) rfl P.threadF_less HEE.out)
          have HOW12 := Lib.hid (own_only HM11.out.own Q12.out.only (by
            intro k hk
            rintro (e | e)
            · have := (HM11.out.own.lt k hk).1
              omega
            · exact own_types HM11.out.own HM11.out.pl (by decide) k hk e))
          have HST := Lib.hid (fun (w13 : World) (pv5 : Value) (ps5 : List Nat) (a5 : Option Addr) (n5 k5 : Nat) hd hp hb ho hf hv (w3 : World) (oo : Obj) (g2 cap2 : Nat) hgr how hat => Mb.step (one := P.threadF ts) (w1 := w13) (pv1 := pv5) (ps1 := ps5) (w2 := w3) (o := oo) (g2 := g2) (cap2 := cap2) (cs := [.slice a5 n5 k5]) issStep (by decide) (by omega) (by omega) HM11.out HTT.out (fun a r hh => P.threadF_less _ _ _ hh) rfl hd hp hb ho hf hv hgr how hat)
          have hvB : (Value.slice a2 m2 q2).ownBlock ≠ some B := fun e => by have := (HM11.out.own.lt B e).1; omega
          have hvR : (Value.slice a2 m2 q2).ownBlock ≠ some R := fun e => by have := (HM11.out.own.lt R e).1; omega
          have HVB := Lib.hid hvB
          have HVR := Lib.hid hvR
          have hnB := Q12.out.far HB12.out (by decide) (by decide)
          have hnR := Q12.out.far HR12.out (by decide) (by decide)
          have HNB := Lib.hid hnB
          have HNR := Lib.hid hnR
          have lB12 := HB12.out.lt
          have lR12 := HR12.out.lt
          clear hvB hvR hnB hnR
          obtain ⟨⟨c0, c1, c2, c3, c4, c5, c6, c7, c8, c9⟩, f0, f1, f2, f3, f4, f5, f6, f7, f8, f9⟩ := ten_free HB12.out
          clear c0 c1 c2 c4 c5 c6 c7 c8 c9 f0 f1 f2 f4 f5 f6 f7 f8 f9
          go_region_law (first
            | (refine step_append_lies _ (by rfl) (.tmp 86) (.tmp 89) 24 (by rfl) w10.heap.size 56 i2 (.slice none 0 0) 1 24 Try.underlying24 HK0.out HW0.out HW1.out HW2.out rfl (by omega) _ m2 vals2 (by rfl) (HOW13.out.alloc _) ⟨w13.heap.size, 0, none⟩ 1 1 [.slice a5 n5 k5] (by rfl) rfl (cells_new w13 #[.slice a5 n5 k5] _) (sl_one _ _ _) (by omega) (by unfold maxLen; omega) (by omega) (by simp <;> omega) (w13.heap.size + 1) (by simp) ?_; intro g2 cp2 w14 hown2 hgrow2 hat2 hlt2; have hB14 := (hgrow2.block B (by simp <;> omega) (fun e => HVB.out e.symm)).trans (HB13.out.alloc (.cells #[.slice a5 n5 k5] 56)); have d2 : w14.cell? ⟨B, 3, none⟩ = some _ := Blk.cell hB14 3; have e2 : w14.frozen? ⟨B, 3, none⟩ = false := Blk.free hB14 3; have HB14 := Lib.hid hB14; have HR14 := Lib.hid ((hgrow2.block R (by simp <;> omega) (fun e => HVR.out e.symm)).trans (HR13.out.alloc (.cells #[.slice a5 n5 k5] 56))))
            | (go_simp; go_at_call 38; (with_reducible refine HBK.out.mono ?_); rintro e w13 ⟨v5, pv5, ps5, rfl, ⟨a5, n5, k5, rfl⟩, hd5, hp5, hb5, ho5, hf5, hv5⟩; have ho5' := ((Only.refl (Pb C pvk) w12).drew).trans ho5; have HB13 := Lib.hid (HB12.out.only ho5' HNB.out); have HR13 := Lib.hid (HR12.out.only ho5' HNR.out); have d1 : w13.cell? ⟨B, 3, none⟩ = some _ := HB13.out.cell 3; have l13 : B < w13.heap.size := HB13.out.lt; have l13n : ¬ B = w13.heap.size := (by omega); have hs13 : w12.heap.size ≤ w13.heap.size := ho5'.size; have HOW13 := Lib.hid (own_only HOW12.out ho5' (fun k hk hx => hx.elim (fun e => by have := (HM11.out.own.lt k hk).1; omega) (fun e => own_types HM11.out.own HM11.out.pl (by decide) k hk e))); rw [HTE.out] at hd5 hb5 hv5))
          all_goals
            have HN := Lib.hid (HST.out w13 pv5 ps5 a5 n5 k5 hd5 hp5 (by omega) (Q12.out.only.trans ho5') (fun j hj => (hf5 j hj).elim .inl (fun h => .inr (by omega))) (fun a q t2 hh => ⟨(hv5 a q t2 hh).1, IsSs.step (fun b hb hl => ⟨⟨by have := hb.1; omega, hb.2⟩, rfl⟩) (hv5 a q t2 hh).2⟩) w14 _ g2 cp2 hgrow2 hown2 hat2)
            clear hown2 hgrow2 hat2 hd5 hp5 hb5 ho5 hf5 hv5
            go_wp2_with fail
            have hpB : pv5.ownBlock ≠ some B := own_ne (t' := 29) HN.out.1.pl HB14.out (by decide)
            have HN2 := Lib.hid (HN.out.1.far issStep (by omega) hBC (by omega) hpB (only_set w14 B 3 (.slice (some ⟨g2, 0, none⟩) (m2 + 1) cp2)))
            have HR15 := Lib.hid (Blk.only HR14.out (only_set w14 B 3 (.slice (some ⟨g2, 0, none⟩) (m2 + 1) cp2)) (by omega))
            have HB15 := Lib.hid (ten3 HB14.out (.slice (some ⟨g2, 0, none⟩) (m2 + 1) cp2))
            go_roundw
            case rel => exact ⟨_, _, _, _, _, _, HN2.out, HR15.out, HB15.out⟩
            case measure =>
              rw [HN2.out.dc.qAt, HLN.out]
              exact HN.out.2
        | false =>
          have er : rT TS = r2 := HM11.out.sum.trans (P.Gl_stop fun a ts e => by subst e; exact hE)
          subst er
          have H11 := Lib.hid (H10.out.loop HM11.out (by omega))
          have HPT := Lib.hid (fun es qs ts (hh : rT TS = .ok ((es, qs), ts)) => (HM11.out.live es qs ts hh).1)
          have HJ11 := Lib.hid (fun es qs ts (hh : rT TS = .ok ((es, qs), ts)) => (show IsTs (NwB R pvk B R) w11 (.slice a2 m2 q2) es from IsTs.step (fun b hb hl => ⟨⟨by have := hb.1; omega, hb.2, by have := hb.1; omega, by have := hb.1; omega⟩, rfl⟩) (show IsTs (Nw w10.heap.size pvk) w11 (.slice a2 m2 q2) es by
            have h1 := HM11.out
            rw [hh] at h1
            exact h1.isTs)))
          have HI11 := Lib.hid (fun es qs ts hh => IsEs.step (HM11.out.same hCl) (HI10.out es qs ts hh))
          clear hE hcnt HLN HM11
          have lR11 := HR11.out.lt
          have lB11 := HB11.out.lt
          have hpk : psk.length ≤ 20001 := by omega
          go_upto_region 16 with (fail)
          go_cut [92] (fun s wx => PartB w w11 R B #[.string ⟨#[]⟩, .int .i64 0, .slice none 0 0, .slice none 0 0, .int .i64 0, .int .i64 0, .int .i64 0, .string ⟨#[]⟩, .int .i64 0, .slice none 0 0] #[.string X, .int .i64 vn, .slice a m c, .slice a2 m2 q2, .int .i64 0, .int .i64 0, .int .i64 0, .string ⟨#[]⟩, .int .i64 0, .slice none 0 0] C g cap base TS pv pvk psk (left (rT TS)) wx)
          case first =>
            obtain ⟨k, bad, t, hkl, hmx, hblk, ⟨t0, t1, t2, t3⟩, hst, hhere⟩ := H11.out.dc.tok
            obtain ⟨c0, c1, c2, c3, _, _, _, f3⟩ := four_free hblk
            have HCB := Lib.hid hblk
            have HH := Lib.hid (fun ts hh => (hhere ts hh).1)
            obtain ⟨tk, tx, tn, ta⟩ := t
            simp only at t0 t1 t2 t3
            clear c2 hst hhere t0 t1 t2 hblk
            have HOW := Lib.hid H11.out.own
            have hpsl : (psk).length ≤ 40000 := by first | omega | (simp; done) | (simp; omega)
            have HKP := Lib.hid (fun w2 wg g2 cp2 n x => H11.out.kept (w2 := w2) (wg := wg) (g2 := g2) (cp2 := cp2) (n := n) (x := x) hg)
            have HNE := Lib.hid (own_ne (t' := 65) H11.out.own HCB.out (by decide))
            have HNR := Lib.hid (H11.out.far HR11.out (by decide) (by decide))
            have HNB := Lib.hid (H11.out.far HB11.out (by decide) (by decide))
            have lR := HR11.out.lt
            have lB := HB11.out.lt
            obtain ⟨ap, cp, rfl⟩ := slice_of_own H11.out.own
            have m1 : (0 : Int) ≤ (k : Int) := by omega
            have m2 : (k : Int) < (TS.length : Int) := by omega
            have hCw : C < w11.heap.size := HCB.out.lt
            have hCn : ¬ C = w11.heap.size := by omega
            have hRC : R ≠ C := fun e => HNR.out (.inl e)
            have hBC : B ≠ C := fun e => HNB.out (.inl e)
            go_region_law (first
              | (refine step_append_lies _ (by rfl) (.tmp 96) (.tmp 108) 35 (by rfl) base 3 i0 (.int .i64 0) 1 8 Try.underlying35 HI0.out HZ0.out HZ1.out HZ2.out rfl (by omega) _ (psk).length (nums (psk)) (by rfl) (HOW.out.alloc _) ⟨w11.heap.size, 0, none⟩ 1 1 [.int .i64 (ta : Nat)] (by rfl) rfl (one_new w11 _ _) (one_one _) (by omega) (by unfold maxLen; omega) (by omega) (by simp; omega) (w11.heap.size + 1) (by simp) ?_; intro g2 cp2 w2 hown2 hgrow2 hat2 hlt2; have hB2 := (hgrow2.block C (by simp; omega) (fun e => HNE.out e.symm)).trans (HCB.out.alloc _); have d2 : w2.cell? ⟨C, 3, none⟩ = some _ := Blk.cell hB2 3; have e2 : w2.frozen? ⟨C, 3, none⟩ = false := Blk.free hB2 3))
            all_goals
              go_wp2_with fail
              go_meet
              case rel =>
                have hsz := hgrow2.size
                simp at hsz
                exact ⟨_, ta, HKP.out _ _ _ _ _ _ (((Only.refl _ w11).alloc _).drew) hgrow2 hown2 rfl hat2, fun ts hh => (HH.out ts hh).symm, Blk.far ((hgrow2.block R (by simp; omega) (fun e => HNR.out (.inr e.symm))).trans (HR11.out.alloc _)) hRC _, Blk.far ((hgrow2.block B (by simp; omega) (fun e => HNB.out (.inr e.symm))).trans (HB11.out.alloc _)) hBC _, by simp; omega, ((((Only.refl (Pb C (.slice ap (psk).length cp)) w11).alloc _).drew).grown' hgrow2 (fun k hk => .inl (.inr hk))).setCell (p := ⟨C, 3, none⟩) (.inl (.inl rfl)) _, fun j hj => by
                  cases hj
                  rcases hat2 with e | e
                  · exact .inl e
                  · exact .inr (by show w11.heap.size ≤ g2; omega)⟩
          case rest =>
          obtain ⟨pv5, x5, hq2, hx5, hr2, hb2, hs12, ho, hf⟩ := hcut
          have H12 := Lib.hid hq2
          have HR12 := Lib.hid hr2
          have HB12 := Lib.hid hb2
          have HX5 := Lib.hid hx5
          have HI12 := Lib.hid (fun es qs ts hh => IsEs.step (same_call hCl ho hf) (HI11.out es qs ts hh))
          have HJ12 := Lib.hid (fun es qs ts hh => IsTs.step (same_call hCl ho hf) (HJ11.out es qs ts hh))
          clear hq2 hr2 hb2 hx5 ho hf HR11 HB11
          cases hA : onIs [102, 111, 114, 97, 108, 108] (left (rT TS)) with
          | true =>
            have HA := Lib.hid hA
            have HAE := Lib.hid (ask_forall hA)
            clear hA
            go_wp2_with fail
            with_reducible refine (is_c C g cap TS pv5 (left (rT TS)) ⟨#[102, 111, 114, 97, 108, 108]⟩ _ H12.out.dc).mono ?_
            rintro e w13 ⟨rfl, hb⟩
            rw [show by' (⟨#[102, 111, 114, 97, 108, 108]⟩ : ByteArray) = [102, 111, 114, 97, 108, 108] from rfl, HA.out]
            have HR13 := Lib.hid (HR12.out.live' hb)
            have HB13 := Lib.hid (HB12.out.live' hb)
            have H13 := Lib.hid (H12.out.call (Only.of_below hb) (H12.out.dc.below hb))
            have hs13 := hb.size
            have HI13 := Lib.hid (fun es qs ts hh => IsEs.step (same_callC hCl (Only.of_below hb)) (HI12.out es qs ts hh))
            have HJ13 := Lib.hid (fun es qs ts hh => IsTs.step (same_callC hCl (Only.of_below hb)) (HJ12.out es qs ts hh))
            clear hb HR12 HB12
            obtain ⟨kp15, x1', y1, hkp, hcs⟩ := H13.out.dc.past HA.out
            obtain ⟨_, _, _⟩ : True ∧ True ∧ True := ⟨trivial, trivial, trivial⟩
            obtain ⟨⟨c0, c1, c2, c3, c4, c5, c6, c7, c8, c9⟩, f0, f1, f2, f3, f4, f5, f6, f7, f8, f9⟩ := ten_free HB13.out
            go_wp2_with fail
            clear c0 c1 c2 c3 c4 c5 c6 c7 c8 c9 f0 f1 f2 f3 f4 f5 f6 f7 f8 f9
            clear y1 hcs
            have hkeep : (w13.setCell ⟨B, 4, none⟩ (.int .i64 2)).cell? ⟨C, 1, none⟩ = some (.int .i64 (kp15 : Nat)) := (only_set w13 B 4 (.int .i64 2)).cell x1' (fun e => hBC e.symm)
            clear x1'
            have HR14 := Lib.hid (HR13.out.only (only_set w13 B 4 (.int .i64 2)) (by omega))
            have H14 := Lib.hid (H13.out.put (t := 29) (by decide) (by decide) (by omega) (by omega) HB13.out 4 (.int .i64 2))
            have HB14 := Lib.hid (ten4 HB13.out (.int .i64 2))
            have hs14 := (only_set w13 B 4 (.int .i64 2)).size
            have HI14 := Lib.hid (fun es qs ts hh => IsEs.step (same_set (i := 4) (.int .i64 2)) (HI13.out es qs ts hh))
            have HJ14 := Lib.hid (fun es qs ts hh => IsTs.step (same_set (i := 4) (.int .i64 2)) (HJ13.out es qs ts hh))
            clear HR13 HB13
            generalize w13.setCell ⟨B, 4, none⟩ (.int .i64 2) = w14 at *
            have HCS := Lib.hid (show Cs (w14.setCell ⟨C, 1, none⟩ (.int .i64 ((kp15 : Int) + 1))) C g cap TS pv5 (left (rA TS)) by
              have e1 : left (rA TS) = tl (left (rT TS)) := by
                show left (on (left (rT TS)) P.askF) = _
                rw [HAE.out, left_tl]
              rw [e1]
              obtain ⟨kq, c1, _, _, h4⟩ := H14.out.dc.past HA.out
              have c1' := hkeep
              rw [c1'] at c1
              injection c1 with c1
              injection c1 with _ c1
              rw [show (kp15 : Int) = (kq : Int) from c1]
              exact h4)
            have HAK := Lib.hid (fun kk r7 (hh : rA TS = .ok (kk, r7)) => (show (2 : Int) = (kk : Nat) by
              have h1 : on (left (rT TS)) P.askF = .ok (kk, r7) := hh
              rw [HAE.out] at h1
              exact congrArg Int.ofNat (ok_tl h1)))
            clear hkeep
            have HR15 := Lib.hid (HR14.out.only (only_at w14 C (.int .i64 ((kp15 : Int) + 1))) (fun e => H14.out.far HR14.out (by decide) (by decide) (.inl e)))
            have HB15 := Lib.hid (HB14.out.only (only_at w14 C (.int .i64 ((kp15 : Int) + 1))) (fun e => H14.out.far HB14.out (by decide) (by decide) (.inl e)))
            have H15 := Lib.hid (H14.out.call (only_at w14 C (.int .i64 ((kp15 : Int) + 1))) HCS.out)
            have hs15 := (only_at w14 C (.int .i64 ((kp15 : Int) + 1))).size
            have HI15 := Lib.hid (fun es qs ts hh => IsEs.step (same_callC hCl (only_at w14 C (.int .i64 ((kp15 : Int) + 1)))) (HI14.out es qs ts hh))
            have HJ15 := Lib.hid (fun es qs ts hh => IsTs.step (same_callC hCl (only_at w14 C (.int .i64 ((kp15 : Int) + 1)))) (HJ14.out es qs ts hh))
            clear HR14 HB14 HCS
            generalize w14.setCell ⟨C, 1, none⟩ (.int .i64 ((kp15 : Int) + 1)) = w15 at *
            with_reducible refine (cond_c C g cap TS pv5 (left (rA TS)) _ H15.out.dc).mono ?_
            rintro e w16 ⟨v, rfl, ⟨xo, xt, xs, xn, xa, xm, xc, rfl⟩, hd, ho, hv⟩
            have HR16 := Lib.hid (HR15.out.only ho (fun e => H15.out.far HR15.out (by decide) (by decide) (.inl e)))
            have HB16 := Lib.hid (HB15.out.only ho (fun e => H15.out.far HB15.out (by decide) (by decide) (.inl e)))
            have H16 := Lib.hid (H15.out.call (st2 := left (rC TS)) ho hd)
            have hs16 := ho.size
            have HI16 := Lib.hid (fun es qs ts hh => IsEs.step (same_callC hCl ho) (HI15.out es qs ts hh))
            have HJ16 := Lib.hid (fun es qs ts hh => IsTs.step (same_callC hCl ho) (HJ15.out es qs ts hh))
            have hpb : ∀ b, pv5.ownBlock = some b → b < w15.heap.size := fun b hb => (H15.out.own.lt b hb).2
            have HC16 := Lib.hid (fun c ts (hh : rC TS = .ok (c, ts)) => (show LC (NwB R pv5 B R) w16 (.agg #[.int .i64 xo, .int .i64 xt, .string xs, .int .i64 xn, .slice xa xm xc]) c from LC.mono (fun b hb _ => ⟨by unfold From at hb; omega, fun e => by have := hpb b e; unfold From at hb; omega, by unfold From at hb; omega, by unfold From at hb; omega⟩) _ (hv c ts hh)))
            clear hv hpb
            clear hd ho HR15 HB15
            obtain ⟨⟨c0, c1, c2, c3, c4, c5, c6, c7, c8, c9⟩, f0, f1, f2, f3, f4, f5, f6, f7, f8, f9⟩ := ten_free HB16.out
            go_upto_region 23 with (fail)
            clear c0 c1 c2 c3 c4 c5 c6 c7 c8 c9 f0 f1 f2 f3 f4 f5 f6 f7 f8 f9
            have HR17 := Lib.hid (HR16.out.only (only_set w16 B 5 (.int .i64 xo)) (by omega))
            have H17 := Lib.hid (H16.out.put (t := 29) (by decide) (by decide) (by omega) (by omega) HB16.out 5 (.int .i64 xo))
            have HB17 := Lib.hid (ten5 HB16.out (.int .i64 xo))
            have hs17 := (only_set w16 B 5 (.int .i64 xo)).size
            have HI17 := Lib.hid (fun es qs ts hh => IsEs.step (same_set (i := 5) (.int .i64 xo)) (HI16.out es qs ts hh))
            have HJ17 := Lib.hid (fun es qs ts hh => IsTs.step (same_set (i := 5) (.int .i64 xo)) (HJ16.out es qs ts hh))
            have HC17 := Lib.hid (fun c ts hh => LC.step (same_set (i := 5) (.int .i64 xo)) (HC16.out c ts hh))
            clear HR16 HB16
            generalize w16.setCell ⟨B, 5, none⟩ (.int .i64 xo) = w17 at *
            have HR18 := Lib.hid (HR17.out.only (only_set w17 B 6 (.int .i64 xt)) (by omega))
            have H18 := Lib.hid (H17.out.put (t := 29) (by decide) (by decide) (by omega) (by omega) HB17.out 6 (.int .i64 xt))
            have HB18 := Lib.hid (ten6 HB17.out (.int .i64 xt))
            have hs18 := (only_set w17 B 6 (.int .i64 xt)).size
            have HI18 := Lib.hid (fun es qs ts hh => IsEs.step (same_set (i := 6) (.int .i64 xt)) (HI17.out es qs ts hh))
            have HJ18 := Lib.hid (fun es qs ts hh => IsTs.step (same_set (i := 6) (.int .i64 xt)) (HJ17.out es qs ts hh))
            have HC18 := Lib.hid (fun c ts hh => LC.step (same_set (i := 6) (.int .i64 xt)) (HC17.out c ts hh))
            clear HR17 HB17
            generalize w17.setCell ⟨B, 6, none⟩ (.int .i64 xt) = w18 at *
            have HR19 := Lib.hid (HR18.out.only (only_set w18 B 7 (.string xs)) (by omega))
            have H19 := Lib.hid (H18.out.put (t := 29) (by decide) (by decide) (by omega) (by omega) HB18.out 7 (.string xs))
            have HB19 := Lib.hid (ten7 HB18.out (.string xs))
            have hs19 := (only_set w18 B 7 (.string xs)).size
            have HI19 := Lib.hid (fun es qs ts hh => IsEs.step (same_set (i := 7) (.string xs)) (HI18.out es qs ts hh))
            have HJ19 := Lib.hid (fun es qs ts hh => IsTs.step (same_set (i := 7) (.string xs)) (HJ18.out es qs ts hh))
            have HC19 := Lib.hid (fun c ts hh => LC.step (same_set (i := 7) (.string xs)) (HC18.out c ts hh))
            clear HR18 HB18
            generalize w18.setCell ⟨B, 7, none⟩ (.string xs) = w19 at *
            have HR20 := Lib.hid (HR19.out.only (only_set w19 B 8 (.int .i64 xn)) (by omega))
            have H20 := Lib.hid (H19.out.put (t := 29) (by decide) (by decide) (by omega) (by omega) HB19.out 8 (.int .i64 xn))
            have HB20 := Lib.hid (ten8 HB19.out (.int .i64 xn))
            have hs20 := (only_set w19 B 8 (.int .i64 xn)).size
            have HI20 := Lib.hid (fun es qs ts hh => IsEs.step (same_set (i := 8) (.int .i64 xn)) (HI19.out es qs ts hh))
            have HJ20 := Lib.hid (fun es qs ts hh => IsTs.step (same_set (i := 8) (.int .i64 xn)) (HJ19.out es qs ts hh))
            have HC20 := Lib.hid (fun c ts hh => LC.step (same_set (i := 8) (.int .i64 xn)) (HC19.out c ts hh))
            clear HR19 HB19
            generalize w19.setCell ⟨B, 8, none⟩ (.int .i64 xn) = w20 at *
            have HR21 := Lib.hid (HR20.out.only (only_set w20 B 9 (.slice xa xm xc)) (by omega))
            have H21 := Lib.hid (H20.out.put (t := 29) (by decide) (by decide) (by omega) (by omega) HB20.out 9 (.slice xa xm xc))
            have HB21 := Lib.hid (ten9 HB20.out (.slice xa xm xc))
            have hs21 := (only_set w20 B 9 (.slice xa xm xc)).size
            have HI21 := Lib.hid (fun es qs ts hh => IsEs.step (same_set (i := 9) (.slice xa xm xc)) (HI20.out es qs ts hh))
            have HJ21 := Lib.hid (fun es qs ts hh => IsTs.step (same_set (i := 9) (.slice xa xm xc)) (HJ20.out es qs ts hh))
            have HC21 := Lib.hid (fun c ts hh => LC.step (same_set (i := 9) (.slice xa xm xc)) (HC20.out c ts hh))
            clear HR20 HB20
            generalize w20.setCell ⟨B, 9, none⟩ (.slice xa xm xc) = w21 at *
            obtain ⟨k9, bad, t, hkl, hmx, hblk, ⟨t0, t1, t2, t3⟩, hst, hhere⟩ := H21.out.dc.tok
            have HCB := Lib.hid hblk
            obtain ⟨c0, c1, c2, c3, _, _, _, _⟩ := four_free hblk
            have m1 : (0 : Int) ≤ (k9 : Int) := by omega
            have m2' : (k9 : Int) < (TS.length : Int) := by omega
            obtain ⟨tk, tx, tn, ta⟩ := t
            simp only at t0 t1 t2 t3
            clear c3 t1 t2 t3 hblk
            cases hz : left (rC TS) with
            | error q =>
              rw [hz] at hst
              obtain rfl : bad = (q : Nat) := hst
              have hdd : decide (((q : Nat) : Int) < 0) = false := by simp
              have HSE := Lib.hid (show sE TS = .error q by unfold sE; rw [hz]; rfl)
              clear hz hhere
              go_quiet (fail)
              clear hdd c0 c1 c2 m1 m2' t0
              obtain ⟨⟨c0, c1, c2, c3, c4, c5, c6, c7, c8, c9⟩, f0, f1, f2, f3, f4, f5, f6, f7, f8, f9⟩ := ten_free HB21.out
              obtain ⟨⟨z0, z1, z2, z3, z4, z5, z6, z7, z8, z9⟩, o0, o1, o2, o3, o4, o5, o6, o7, o8, o9⟩ := ten_free HR21.out
              go_wp2_with fail
              refine bodyPost_ret (results_cell_row (p := 2) rfl _ _ R 29 #[.string X, .int .i64 vn, .slice a m c, .slice a2 m2 q2, .int .i64 2, .int .i64 xo, .int .i64 xt, .string xs, .int .i64 xn, .slice xa xm xc] (0, 0) _ rfl (put10 (show Blk (w21.drewN nq) R 29 #[.string ⟨#[]⟩, .int .i64 0, .slice none 0 0, .slice none 0 0, .int .i64 0, .int .i64 0, .int .i64 0, .string ⟨#[]⟩, .int .i64 0, .slice none 0 0] from HR21.out)) Try.underlying29 rfl (by kernel_rfl)) rfl ?_
              have hCR : C ≠ R := by omega
              have hpR : pv5.ownBlock ≠ some R := own_ne H21.out.own HR21.out (by decide)
              have hpt : Only (fun b => b = R) w21 (put10w (w21.drewN nq) R (.string X) (.int .i64 vn) (.slice a m c) (.slice a2 m2 q2) (.int .i64 2) (.int .i64 xo) (.int .i64 xt) (.string xs) (.int .i64 xn) (.slice xa xm xc)) := Only.put10 ((Only.refl (fun b => b = R) w21).drewN nq) (.inl rfl) (.string X) (.int .i64 vn) (.slice a m c) (.slice a2 m2 q2) (.int .i64 2) (.int .i64 xo) (.int .i64 xt) (.string xs) (.int .i64 xn) (.slice xa xm xc)
              refine ⟨_, pv5, psk ++ [x5], rfl, ⟨_, _, _, _, _, _, _, _, _, _, _, _, _, _, _, _, rfl⟩, ⟨_, _, by rw [HSE.out]; exact Blk.only HCB.out hpt hCR⟩, own_only H21.out.own hpt (fun k hk e => hpR (e ▸ hk)), H21.out.only.then hpt (fun j hj => .inr (by omega)), H21.out.fr, ?_⟩
              rintro p qs ⟨nm, r1, v, r2, cs, ps, r5, bl, q3, r6, kk, r7, cc, r8, g1, g2, g3, g4, g5, g6, rfl, rfl⟩
              have e1 := HTn.out nm r1 g1
              injection e1 with e1
              have e2 := HTv.out v r2 g2
              injection e2 with _ e2
              have e3 := HAK.out kk r7 g5
              subst e1
              subst e2
              have e4 := HPI.out cs ps r5 g3
              have e5 := HPT.out bl q3 r6 g4
              have e6 : x5 = P.here r6 := HX5.out r6 (by rw [g4]; rfl)
              refine ⟨?_, .slice a m c, .slice a2 m2 q2, xo, xt, xs, xn, xa, xm, xc, ?_, ?_, ?_, ?_⟩
              · rw [e6, e5, e4]
                simp
              · show Value.agg #[_, _, _, _, .int .i64 2, _, _, _, _, _] = _
                rw [e3]
              · exact IsEs.step (fun b hb hl => ⟨⟨by have := hb.1; omega, hb.2.1⟩, hpt.block b hl hb.2.2.2⟩) (HI21.out cs ps r5 g3)
              · exact IsTs.step (fun b hb hl => ⟨⟨by have := hb.1; omega, hb.2.1⟩, hpt.block b hl hb.2.2.2⟩) (HJ21.out bl q3 r6 g4)
              · exact LC.step (fun b hb hl => ⟨⟨by have := hb.1; omega, hb.2.1⟩, hpt.block b hl hb.2.2.2⟩) (HC21.out cc r8 g6)
            | ok t9 =>
              rw [hz] at hst
              obtain ⟨rfl, _⟩ := hst
              obtain ⟨hh1, r9, hh2⟩ := hhere t9 hz
              by_cases hk4 : tk = 4
              · subst hk4
                have HSE := Lib.hid (show sE TS = .ok r9 by unfold sE; rw [hz, hh2]; rfl)
                clear hz hhere hh1 hh2
                go_quiet (fail)
                clear c0 c1 c2 m1 m2' t0
                obtain ⟨⟨c0, c1, c2, c3, c4, c5, c6, c7, c8, c9⟩, f0, f1, f2, f3, f4, f5, f6, f7, f8, f9⟩ := ten_free HB21.out
                obtain ⟨⟨z0, z1, z2, z3, z4, z5, z6, z7, z8, z9⟩, o0, o1, o2, o3, o4, o5, o6, o7, o8, o9⟩ := ten_free HR21.out
                go_wp2_with fail
                refine bodyPost_ret (results_cell_row (p := 2) rfl _ _ R 29 #[.string X, .int .i64 vn, .slice a m c, .slice a2 m2 q2, .int .i64 2, .int .i64 xo, .int .i64 xt, .string xs, .int .i64 xn, .slice xa xm xc] (0, 0) _ rfl (put10 (show Blk (w21.drewN nq) R 29 #[.string ⟨#[]⟩, .int .i64 0, .slice none 0 0, .slice none 0 0, .int .i64 0, .int .i64 0, .int .i64 0, .string ⟨#[]⟩, .int .i64 0, .slice none 0 0] from HR21.out)) Try.underlying29 rfl (by kernel_rfl)) rfl ?_
                have hCR : C ≠ R := by omega
                have hpR : pv5.ownBlock ≠ some R := own_ne H21.out.own HR21.out (by decide)
                have hpt : Only (fun b => b = R) w21 (put10w (w21.drewN nq) R (.string X) (.int .i64 vn) (.slice a m c) (.slice a2 m2 q2) (.int .i64 2) (.int .i64 xo) (.int .i64 xt) (.string xs) (.int .i64 xn) (.slice xa xm xc)) := Only.put10 ((Only.refl (fun b => b = R) w21).drewN nq) (.inl rfl) (.string X) (.int .i64 vn) (.slice a m c) (.slice a2 m2 q2) (.int .i64 2) (.int .i64 xo) (.int .i64 xt) (.string xs) (.int .i64 xn) (.slice xa xm xc)
                refine ⟨_, pv5, psk ++ [x5], rfl, ⟨_, _, _, _, _, _, _, _, _, _, _, _, _, _, _, _, rfl⟩, ⟨_, _, by rw [HSE.out]; exact Blk.only HCB.out hpt hCR⟩, own_only H21.out.own hpt (fun k hk e => hpR (e ▸ hk)), H21.out.only.then hpt (fun j hj => .inr (by omega)), H21.out.fr, ?_⟩
                rintro p qs ⟨nm, r1, v, r2, cs, ps, r5, bl, q3, r6, kk, r7, cc, r8, g1, g2, g3, g4, g5, g6, rfl, rfl⟩
                have e1 := HTn.out nm r1 g1
                injection e1 with e1
                have e2 := HTv.out v r2 g2
                injection e2 with _ e2
                have e3 := HAK.out kk r7 g5
                subst e1
                subst e2
                have e4 := HPI.out cs ps r5 g3
                have e5 := HPT.out bl q3 r6 g4
                have e6 : x5 = P.here r6 := HX5.out r6 (by rw [g4]; rfl)
                refine ⟨?_, .slice a m c, .slice a2 m2 q2, xo, xt, xs, xn, xa, xm, xc, ?_, ?_, ?_, ?_⟩
                · rw [e6, e5, e4]
                  simp
                · show Value.agg #[_, _, _, _, .int .i64 2, _, _, _, _, _] = _
                  rw [e3]
                · exact IsEs.step (fun b hb hl => ⟨⟨by have := hb.1; omega, hb.2.1⟩, hpt.block b hl hb.2.2.2⟩) (HI21.out cs ps r5 g3)
                · exact IsTs.step (fun b hb hl => ⟨⟨by have := hb.1; omega, hb.2.1⟩, hpt.block b hl hb.2.2.2⟩) (HJ21.out bl q3 r6 g4)
                · exact LC.step (fun b hb hl => ⟨⟨by have := hb.1; omega, hb.2.1⟩, hpt.block b hl hb.2.2.2⟩) (HC21.out cc r8 g6)
              · have hkb : (((tk : Nat) : Int) == 4) = false := by simp; omega
                have hkc : (((tk : Nat) : Int) != 4) = true := by simp; omega
                have HSE := Lib.hid (show sE TS = .error ta by
                  unfold sE
                  rw [hz, hh2]
                  have e1 : onE (.ok ((⟨tk, tx, tn, ta⟩ : Tok) :: r9)) = false := by simpa [onE, nxt] using hk4
                  rw [e1]
                  rfl)
                have HZ9 := Lib.hid hz
                have HH1 := Lib.hid hh1
                clear hz hhere hh1 hh2
                go_quiet (fail)
                go_wp2_with fail
                clear c0 c1 c2 m1 m2' t0 hkb hkc
                have hcall := wrong_c C g cap TS pv5 t9 (w21.drewN nq) (show Cs (w21.drewN nq) C g cap TS pv5 (.ok t9) by rw [← HZ9.out]; exact H21.out.dc.drewN' _)
                with_reducible refine hcall.mono ?_
                rintro e w22 ⟨rfl, ⟨y1, hcb⟩, ho'⟩
                have ho : Only (· = C) w21 w22 := ((Only.refl (· = C) w21).drewN _).trans ho'
                have HR22 := Lib.hid (HR21.out.only ho (fun e => H21.out.far HR21.out (by decide) (by decide) (.inl e)))
                have HB22 := Lib.hid (HB21.out.only ho (fun e => H21.out.far HB21.out (by decide) (by decide) (.inl e)))
                have HCB' := Lib.hid hcb
                have HON := Lib.hid ho
                have hs22 := ho.size
                have HI22 := Lib.hid (fun es qs ts hh => IsEs.step (same_callC hCl ho) (HI21.out es qs ts hh))
                have HJ22 := Lib.hid (fun es qs ts hh => IsTs.step (same_callC hCl ho) (HJ21.out es qs ts hh))
                have HC22 := Lib.hid (fun c ts hh => LC.step (same_callC hCl ho) (HC21.out c ts hh))
                rw [HH1.out] at HCB'
                clear hcb ho ho' hcall
                obtain ⟨⟨c0, c1, c2, c3, c4, c5, c6, c7, c8, c9⟩, f0, f1, f2, f3, f4, f5, f6, f7, f8, f9⟩ := ten_free HB22.out
                obtain ⟨⟨z0, z1, z2, z3, z4, z5, z6, z7, z8, z9⟩, o0, o1, o2, o3, o4, o5, o6, o7, o8, o9⟩ := ten_free HR22.out
                go_wp2_with fail
                refine bodyPost_ret (results_cell_row (p := 2) rfl _ _ R 29 #[.string X, .int .i64 vn, .slice a m c, .slice a2 m2 q2, .int .i64 2, .int .i64 xo, .int .i64 xt, .string xs, .int .i64 xn, .slice xa xm xc] (0, 0) _ rfl (put10 (show Blk w22 R 29 #[.string ⟨#[]⟩, .int .i64 0, .slice none 0 0, .slice none 0 0, .int .i64 0, .int .i64 0, .int .i64 0, .string ⟨#[]⟩, .int .i64 0, .slice none 0 0] from HR22.out)) Try.underlying29 rfl (by kernel_rfl)) rfl ?_
                have hCR : C ≠ R := by omega
                have hpR : pv5.ownBlock ≠ some R := own_ne (own_only H21.out.own HON.out (fun k hk e => H21.out.notC k hk e)) HR22.out (by decide)
                have hpt : Only (fun b => b = R) w22 (put10w w22 R (.string X) (.int .i64 vn) (.slice a m c) (.slice a2 m2 q2) (.int .i64 2) (.int .i64 xo) (.int .i64 xt) (.string xs) (.int .i64 xn) (.slice xa xm xc)) := Only.put10 (Only.refl (fun b => b = R) w22) (.inl rfl) (.string X) (.int .i64 vn) (.slice a m c) (.slice a2 m2 q2) (.int .i64 2) (.int .i64 xo) (.int .i64 xt) (.string xs) (.int .i64 xn) (.slice xa xm xc)
                refine ⟨_, pv5, psk ++ [x5], rfl, ⟨_, _, _, _, _, _, _, _, _, _, _, _, _, _, _, _, rfl⟩, ⟨_, _, by rw [HSE.out]; exact Blk.only HCB'.out hpt hCR⟩, own_only (own_only H21.out.own HON.out (fun k hk e => H21.out.notC k hk e)) hpt (fun k hk e => hpR (e ▸ hk)), (H21.out.only.then HON.out (fun j hj => .inl (.inl hj))).then hpt (fun j hj => .inr (by omega)), H21.out.fr, ?_⟩
                rintro p qs ⟨nm, r1, v, r2, cs, ps, r5, bl, q3, r6, kk, r7, cc, r8, g1, g2, g3, g4, g5, g6, rfl, rfl⟩
                have e1 := HTn.out nm r1 g1
                injection e1 with e1
                have e2 := HTv.out v r2 g2
                injection e2 with _ e2
                have e3 := HAK.out kk r7 g5
                subst e1
                subst e2
                have e4 := HPI.out cs ps r5 g3
                have e5 := HPT.out bl q3 r6 g4
                have e6 : x5 = P.here r6 := HX5.out r6 (by rw [g4]; rfl)
                refine ⟨?_, .slice a m c, .slice a2 m2 q2, xo, xt, xs, xn, xa, xm, xc, ?_, ?_, ?_, ?_⟩
                · rw [e6, e5, e4]
                  simp
                · show Value.agg #[_, _, _, _, .int .i64 2, _, _, _, _, _] = _
                  rw [e3]
                · exact IsEs.step (fun b hb hl => ⟨⟨by have := hb.1; omega, hb.2.1⟩, hpt.block b hl hb.2.2.2⟩) (HI22.out cs ps r5 g3)
                · exact IsTs.step (fun b hb hl => ⟨⟨by have := hb.1; omega, hb.2.1⟩, hpt.block b hl hb.2.2.2⟩) (HJ22.out bl q3 r6 g4)
                · exact LC.step (fun b hb hl => ⟨⟨by have := hb.1; omega, hb.2.1⟩, hpt.block b hl hb.2.2.2⟩) (HC22.out cc r8 g6)
          | false =>
            have HA := Lib.hid hA
            have HAE := Lib.hid (ask_need hA)
            clear hA
            go_wp2_with fail
            with_reducible refine (is_c C g cap TS pv5 (left (rT TS)) ⟨#[102, 111, 114, 97, 108, 108]⟩ _ H12.out.dc).mono ?_
            rintro e w13 ⟨rfl, hb⟩
            rw [show by' (⟨#[102, 111, 114, 97, 108, 108]⟩ : ByteArray) = [102, 111, 114, 97, 108, 108] from rfl, HA.out]
            have HR13 := Lib.hid (HR12.out.live' hb)
            have HB13 := Lib.hid (HB12.out.live' hb)
            have H13 := Lib.hid (H12.out.call (Only.of_below hb) (H12.out.dc.below hb))
            have hs13 := hb.size
            have HI13 := Lib.hid (fun es qs ts hh => IsEs.step (same_callC hCl (Only.of_below hb)) (HI12.out es qs ts hh))
            have HJ13 := Lib.hid (fun es qs ts hh => IsTs.step (same_callC hCl (Only.of_below hb)) (HJ12.out es qs ts hh))
            clear hb HR12 HB12
            obtain ⟨⟨c0, c1, c2, c3, c4, c5, c6, c7, c8, c9⟩, f0, f1, f2, f3, f4, f5, f6, f7, f8, f9⟩ := ten_free HB13.out
            go_wp2_with fail
            clear c0 c1 c2 c3 c4 c5 c6 c7 c8 c9 f0 f1 f2 f3 f4 f5 f6 f7 f8 f9
            have HR14 := Lib.hid (HR13.out.only (only_set w13 B 4 (.int .i64 1)) (by omega))
            have H14 := Lib.hid (H13.out.put (t := 29) (by decide) (by decide) (by omega) (by omega) HB13.out 4 (.int .i64 1))
            have HB14 := Lib.hid (ten4 HB13.out (.int .i64 1))
            have hs14 := (only_set w13 B 4 (.int .i64 1)).size
            have HI14 := Lib.hid (fun es qs ts hh => IsEs.step (same_set (i := 4) (.int .i64 1)) (HI13.out es qs ts hh))
            have HJ14 := Lib.hid (fun es qs ts hh => IsTs.step (same_set (i := 4) (.int .i64 1)) (HJ13.out es qs ts hh))
            clear HR13 HB13
            generalize w13.setCell ⟨B, 4, none⟩ (.int .i64 1) = w14 at *
            with_reducible refine (need_c C g cap TS pv5 (left (rT TS)) ⟨#[101, 120, 105, 115, 116, 115]⟩ _ H14.out.dc).mono ?_
            rintro e w15 ⟨rfl, hd, ho⟩
            replace hd : Cs w15 C g cap TS pv5 (left (rA TS)) := by
              show Cs w15 C g cap TS pv5 (left (on (left (rT TS)) P.askF))
              rw [HAE.out.1]
              exact hd
            have HR15 := Lib.hid (HR14.out.only ho (fun e => H14.out.far HR14.out (by decide) (by decide) (.inl e)))
            have HB15 := Lib.hid (HB14.out.only ho (fun e => H14.out.far HB14.out (by decide) (by decide) (.inl e)))
            have H15 := Lib.hid (H14.out.call (st2 := left (rA TS)) ho hd)
            have hs15 := ho.size
            have HI15 := Lib.hid (fun es qs ts hh => IsEs.step (same_callC hCl ho) (HI14.out es qs ts hh))
            have HJ15 := Lib.hid (fun es qs ts hh => IsTs.step (same_callC hCl ho) (HJ14.out es qs ts hh))
            clear hd ho HR14 HB14
            have HAK := Lib.hid (fun kk r7 (hh : rA TS = .ok (kk, r7)) => (show (1 : Int) = (kk : Nat) from congrArg Int.ofNat (HAE.out.2 kk r7 hh)))
            go_wp2_with fail
            with_reducible refine (cond_c C g cap TS pv5 (left (rA TS)) _ H15.out.dc).mono ?_
            rintro e w16 ⟨v, rfl, ⟨xo, xt, xs, xn, xa, xm, xc, rfl⟩, hd, ho, hv⟩
            have HR16 := Lib.hid (HR15.out.only ho (fun e => H15.out.far HR15.out (by decide) (by decide) (.inl e)))
            have HB16 := Lib.hid (HB15.out.only ho (fun e => H15.out.far HB15.out (by decide) (by decide) (.inl e)))
            have H16 := Lib.hid (H15.out.call (st2 := left (rC TS)) ho hd)
            have hs16 := ho.size
            have HI16 := Lib.hid (fun es qs ts hh => IsEs.step (same_callC hCl ho) (HI15.out es qs ts hh))
            have HJ16 := Lib.hid (fun es qs ts hh => IsTs.step (same_callC hCl ho) (HJ15.out es qs ts hh))
            have hpb : ∀ b, pv5.ownBlock = some b → b < w15.heap.size := fun b hb => (H15.out.own.lt b hb).2
            have HC16 := Lib.hid (fun c ts (hh : rC TS = .ok (c, ts)) => (show LC (NwB R pv5 B R) w16 (.agg #[.int .i64 xo, .int .i64 xt, .string xs, .int .i64 xn, .slice xa xm xc]) c from LC.mono (fun b hb _ => ⟨by unfold From at hb; omega, fun e => by have := hpb b e; unfold From at hb; omega, by unfold From at hb; omega, by unfold From at hb; omega⟩) _ (hv c ts hh)))
            clear hv hpb
            clear hd ho HR15 HB15
            obtain ⟨⟨c0, c1, c2, c3, c4, c5, c6, c7, c8, c9⟩, f0, f1, f2, f3, f4, f5, f6, f7, f8, f9⟩ := ten_free HB16.out
            go_upto_region 23 with (fail)
            clear c0 c1 c2 c3 c4 c5 c6 c7 c8 c9 f0 f1 f2 f3 f4 f5 f6 f7 f8 f9
            have HR17 := Lib.hid (HR16.out.only (only_set w16 B 5 (.int .i64 xo)) (by omega))
            have H17 := Lib.hid (H16.out.put (t := 29) (by decide) (by decide) (by omega) (by omega) HB16.out 5 (.int .i64 xo))
            have HB17 := Lib.hid (ten5 HB16.out (.int .i64 xo))
            have hs17 := (only_set w16 B 5 (.int .i64 xo)).size
            have HI17 := Lib.hid (fun es qs ts hh => IsEs.step (same_set (i := 5) (.int .i64 xo)) (HI16.out es qs ts hh))
            have HJ17 := Lib.hid (fun es qs ts hh => IsTs.step (same_set (i := 5) (.int .i64 xo)) (HJ16.out es qs ts hh))
            have HC17 := Lib.hid (fun c ts hh => LC.step (same_set (i := 5) (.int .i64 xo)) (HC16.out c ts hh))
            clear HR16 HB16
            generalize w16.setCell ⟨B, 5, none⟩ (.int .i64 xo) = w17 at *
            have HR18 := Lib.hid (HR17.out.only (only_set w17 B 6 (.int .i64 xt)) (by omega))
            have H18 := Lib.hid (H17.out.put (t := 29) (by decide) (by decide) (by omega) (by omega) HB17.out 6 (.int .i64 xt))
            have HB18 := Lib.hid (ten6 HB17.out (.int .i64 xt))
            have hs18 := (only_set w17 B 6 (.int .i64 xt)).size
            have HI18 := Lib.hid (fun es qs ts hh => IsEs.step (same_set (i := 6) (.int .i64 xt)) (HI17.out es qs ts hh))
            have HJ18 := Lib.hid (fun es qs ts hh => IsTs.step (same_set (i := 6) (.int .i64 xt)) (HJ17.out es qs ts hh))
            have HC18 := Lib.hid (fun c ts hh => LC.step (same_set (i := 6) (.int .i64 xt)) (HC17.out c ts hh))
            clear HR17 HB17
            generalize w17.setCell ⟨B, 6, none⟩ (.int .i64 xt) = w18 at *
            have HR19 := Lib.hid (HR18.out.only (only_set w18 B 7 (.string xs)) (by omega))
            have H19 := Lib.hid (H18.out.put (t := 29) (by decide) (by decide) (by omega) (by omega) HB18.out 7 (.string xs))
            have HB19 := Lib.hid (ten7 HB18.out (.string xs))
            have hs19 := (only_set w18 B 7 (.string xs)).size
            have HI19 := Lib.hid (fun es qs ts hh => IsEs.step (same_set (i := 7) (.string xs)) (HI18.out es qs ts hh))
            have HJ19 := Lib.hid (fun es qs ts hh => IsTs.step (same_set (i := 7) (.string xs)) (HJ18.out es qs ts hh))
            have HC19 := Lib.hid (fun c ts hh => LC.step (same_set (i := 7) (.string xs)) (HC18.out c ts hh))
            clear HR18 HB18
            generalize w18.setCell ⟨B, 7, none⟩ (.string xs) = w19 at *
            have HR20 := Lib.hid (HR19.out.only (only_set w19 B 8 (.int .i64 xn)) (by omega))
            have H20 := Lib.hid (H19.out.put (t := 29) (by decide) (by decide) (by omega) (by omega) HB19.out 8 (.int .i64 xn))
            have HB20 := Lib.hid (ten8 HB19.out (.int .i64 xn))
            have hs20 := (only_set w19 B 8 (.int .i64 xn)).size
            have HI20 := Lib.hid (fun es qs ts hh => IsEs.step (same_set (i := 8) (.int .i64 xn)) (HI19.out es qs ts hh))
            have HJ20 := Lib.hid (fun es qs ts hh => IsTs.step (same_set (i := 8) (.int .i64 xn)) (HJ19.out es qs ts hh))
            have HC20 := Lib.hid (fun c ts hh => LC.step (same_set (i := 8) (.int .i64 xn)) (HC19.out c ts hh))
            clear HR19 HB19
            generalize w19.setCell ⟨B, 8, none⟩ (.int .i64 xn) = w20 at *
            have HR21 := Lib.hid (HR20.out.only (only_set w20 B 9 (.slice xa xm xc)) (by omega))
            have H21 := Lib.hid (H20.out.put (t := 29) (by decide) (by decide) (by omega) (by omega) HB20.out 9 (.slice xa xm xc))
            have HB21 := Lib.hid (ten9 HB20.out (.slice xa xm xc))
            have hs21 := (only_set w20 B 9 (.slice xa xm xc)).size
            have HI21 := Lib.hid (fun es qs ts hh => IsEs.step (same_set (i := 9) (.slice xa xm xc)) (HI20.out es qs ts hh))
            have HJ21 := Lib.hid (fun es qs ts hh => IsTs.step (same_set (i := 9) (.slice xa xm xc)) (HJ20.out es qs ts hh))
            have HC21 := Lib.hid (fun c ts hh => LC.step (same_set (i := 9) (.slice xa xm xc)) (HC20.out c ts hh))
            clear HR20 HB20
            generalize w20.setCell ⟨B, 9, none⟩ (.slice xa xm xc) = w21 at *
            obtain ⟨k9, bad, t, hkl, hmx, hblk, ⟨t0, t1, t2, t3⟩, hst, hhere⟩ := H21.out.dc.tok
            have HCB := Lib.hid hblk
            obtain ⟨c0, c1, c2, c3, _, _, _, _⟩ := four_free hblk
            have m1 : (0 : Int) ≤ (k9 : Int) := by omega
            have m2' : (k9 : Int) < (TS.length : Int) := by omega
            obtain ⟨tk, tx, tn, ta⟩ := t
            simp only at t0 t1 t2 t3
            clear c3 t1 t2 t3 hblk
            cases hz : left (rC TS) with
            | error q =>
              rw [hz] at hst
              obtain rfl : bad = (q : Nat) := hst
              have hdd : decide (((q : Nat) : Int) < 0) = false := by simp
              have HSE := Lib.hid (show sE TS = .error q by unfold sE; rw [hz]; rfl)
              clear hz hhere
              go_quiet (fail)
              clear hdd c0 c1 c2 m1 m2' t0
              obtain ⟨⟨c0, c1, c2, c3, c4, c5, c6, c7, c8, c9⟩, f0, f1, f2, f3, f4, f5, f6, f7, f8, f9⟩ := ten_free HB21.out
              obtain ⟨⟨z0, z1, z2, z3, z4, z5, z6, z7, z8, z9⟩, o0, o1, o2, o3, o4, o5, o6, o7, o8, o9⟩ := ten_free HR21.out
              go_wp2_with fail
              refine bodyPost_ret (results_cell_row (p := 2) rfl _ _ R 29 #[.string X, .int .i64 vn, .slice a m c, .slice a2 m2 q2, .int .i64 1, .int .i64 xo, .int .i64 xt, .string xs, .int .i64 xn, .slice xa xm xc] (0, 0) _ rfl (put10 (show Blk (w21.drewN nq) R 29 #[.string ⟨#[]⟩, .int .i64 0, .slice none 0 0, .slice none 0 0, .int .i64 0, .int .i64 0, .int .i64 0, .string ⟨#[]⟩, .int .i64 0, .slice none 0 0] from HR21.out)) Try.underlying29 rfl (by kernel_rfl)) rfl ?_
              have hCR : C ≠ R := by omega
              have hpR : pv5.ownBlock ≠ some R := own_ne H21.out.own HR21.out (by decide)
              have hpt : Only (fun b => b = R) w21 (put10w (w21.drewN nq) R (.string X) (.int .i64 vn) (.slice a m c) (.slice a2 m2 q2) (.int .i64 1) (.int .i64 xo) (.int .i64 xt) (.string xs) (.int .i64 xn) (.slice xa xm xc)) := Only.put10 ((Only.refl (fun b => b = R) w21).drewN nq) (.inl rfl) (.string X) (.int .i64 vn) (.slice a m c) (.slice a2 m2 q2) (.int .i64 1) (.int .i64 xo) (.int .i64 xt) (.string xs) (.int .i64 xn) (.slice xa xm xc)
              refine ⟨_, pv5, psk ++ [x5], rfl, ⟨_, _, _, _, _, _, _, _, _, _, _, _, _, _, _, _, rfl⟩, ⟨_, _, by rw [HSE.out]; exact Blk.only HCB.out hpt hCR⟩, own_only H21.out.own hpt (fun k hk e => hpR (e ▸ hk)), H21.out.only.then hpt (fun j hj => .inr (by omega)), H21.out.fr, ?_⟩
              rintro p qs ⟨nm, r1, v, r2, cs, ps, r5, bl, q3, r6, kk, r7, cc, r8, g1, g2, g3, g4, g5, g6, rfl, rfl⟩
              have e1 := HTn.out nm r1 g1
              injection e1 with e1
              have e2 := HTv.out v r2 g2
              injection e2 with _ e2
              have e3 := HAK.out kk r7 g5
              subst e1
              subst e2
              have e4 := HPI.out cs ps r5 g3
              have e5 := HPT.out bl q3 r6 g4
              have e6 : x5 = P.here r6 := HX5.out r6 (by rw [g4]; rfl)
              refine ⟨?_, .slice a m c, .slice a2 m2 q2, xo, xt, xs, xn, xa, xm, xc, ?_, ?_, ?_, ?_⟩
              · rw [e6, e5, e4]
                simp
              · show Value.agg #[_, _, _, _, .int .i64 1, _, _, _, _, _] = _
                rw [e3]
              · exact IsEs.step (fun b hb hl => ⟨⟨by have := hb.1; omega, hb.2.1⟩, hpt.block b hl hb.2.2.2⟩) (HI21.out cs ps r5 g3)
              · exact IsTs.step (fun b hb hl => ⟨⟨by have := hb.1; omega, hb.2.1⟩, hpt.block b hl hb.2.2.2⟩) (HJ21.out bl q3 r6 g4)
              · exact LC.step (fun b hb hl => ⟨⟨by have := hb.1; omega, hb.2.1⟩, hpt.block b hl hb.2.2.2⟩) (HC21.out cc r8 g6)
            | ok t9 =>
              rw [hz] at hst
              obtain ⟨rfl, _⟩ := hst
              obtain ⟨hh1, r9, hh2⟩ := hhere t9 hz
              by_cases hk4 : tk = 4
              · subst hk4
                have HSE := Lib.hid (show sE TS = .ok r9 by unfold sE; rw [hz, hh2]; rfl)
                clear hz hhere hh1 hh2
                go_quiet (fail)
                clear c0 c1 c2 m1 m2' t0
                obtain ⟨⟨c0, c1, c2, c3, c4, c5, c6, c7, c8, c9⟩, f0, f1, f2, f3, f4, f5, f6, f7, f8, f9⟩ := ten_free HB21.out
                obtain ⟨⟨z0, z1, z2, z3, z4, z5, z6, z7, z8, z9⟩, o0, o1, o2, o3, o4, o5, o6, o7, o8, o9⟩ := ten_free HR21.out
                go_wp2_with fail
                refine bodyPost_ret (results_cell_row (p := 2) rfl _ _ R 29 #[.string X, .int .i64 vn, .slice a m c, .slice a2 m2 q2, .int .i64 1, .int .i64 xo, .int .i64 xt, .string xs, .int .i64 xn, .slice xa xm xc] (0, 0) _ rfl (put10 (show Blk (w21.drewN nq) R 29 #[.string ⟨#[]⟩, .int .i64 0, .slice none 0 0, .slice none 0 0, .int .i64 0, .int .i64 0, .int .i64 0, .string ⟨#[]⟩, .int .i64 0, .slice none 0 0] from HR21.out)) Try.underlying29 rfl (by kernel_rfl)) rfl ?_
                have hCR : C ≠ R := by omega
                have hpR : pv5.ownBlock ≠ some R := own_ne H21.out.own HR21.out (by decide)
                have hpt : Only (fun b => b = R) w21 (put10w (w21.drewN nq) R (.string X) (.int .i64 vn) (.slice a m c) (.slice a2 m2 q2) (.int .i64 1) (.int .i64 xo) (.int .i64 xt) (.string xs) (.int .i64 xn) (.slice xa xm xc)) := Only.put10 ((Only.refl (fun b => b = R) w21).drewN nq) (.inl rfl) (.string X) (.int .i64 vn) (.slice a m c) (.slice a2 m2 q2) (.int .i64 1) (.int .i64 xo) (.int .i64 xt) (.string xs) (.int .i64 xn) (.slice xa xm xc)
                refine ⟨_, pv5, psk ++ [x5], rfl, ⟨_, _, _, _, _, _, _, _, _, _, _, _, _, _, _, _, rfl⟩, ⟨_, _, by rw [HSE.out]; exact Blk.only HCB.out hpt hCR⟩, own_only H21.out.own hpt (fun k hk e => hpR (e ▸ hk)), H21.out.only.then hpt (fun j hj => .inr (by omega)), H21.out.fr, ?_⟩
                rintro p qs ⟨nm, r1, v, r2, cs, ps, r5, bl, q3, r6, kk, r7, cc, r8, g1, g2, g3, g4, g5, g6, rfl, rfl⟩
                have e1 := HTn.out nm r1 g1
                injection e1 with e1
                have e2 := HTv.out v r2 g2
                injection e2 with _ e2
                have e3 := HAK.out kk r7 g5
                subst e1
                subst e2
                have e4 := HPI.out cs ps r5 g3
                have e5 := HPT.out bl q3 r6 g4
                have e6 : x5 = P.here r6 := HX5.out r6 (by rw [g4]; rfl)
                refine ⟨?_, .slice a m c, .slice a2 m2 q2, xo, xt, xs, xn, xa, xm, xc, ?_, ?_, ?_, ?_⟩
                · rw [e6, e5, e4]
                  simp
                · show Value.agg #[_, _, _, _, .int .i64 1, _, _, _, _, _] = _
                  rw [e3]
                · exact IsEs.step (fun b hb hl => ⟨⟨by have := hb.1; omega, hb.2.1⟩, hpt.block b hl hb.2.2.2⟩) (HI21.out cs ps r5 g3)
                · exact IsTs.step (fun b hb hl => ⟨⟨by have := hb.1; omega, hb.2.1⟩, hpt.block b hl hb.2.2.2⟩) (HJ21.out bl q3 r6 g4)
                · exact LC.step (fun b hb hl => ⟨⟨by have := hb.1; omega, hb.2.1⟩, hpt.block b hl hb.2.2.2⟩) (HC21.out cc r8 g6)
              · have hkb : (((tk : Nat) : Int) == 4) = false := by simp; omega
                have hkc : (((tk : Nat) : Int) != 4) = true := by simp; omega
                have HSE := Lib.hid (show sE TS = .error ta by
                  unfold sE
                  rw [hz, hh2]
                  have e1 : onE (.ok ((⟨tk, tx, tn, ta⟩ : Tok) :: r9)) = false := by simpa [onE, nxt] using hk4
                  rw [e1]
                  rfl)
                have HZ9 := Lib.hid hz
                have HH1 := Lib.hid hh1
                clear hz hhere hh1 hh2
                go_quiet (fail)
                go_wp2_with fail
                clear c0 c1 c2 m1 m2' t0 hkb hkc
                have hcall := wrong_c C g cap TS pv5 t9 (w21.drewN nq) (show Cs (w21.drewN nq) C g cap TS pv5 (.ok t9) by rw [← HZ9.out]; exact H21.out.dc.drewN' _)
                with_reducible refine hcall.mono ?_
                rintro e w22 ⟨rfl, ⟨y1, hcb⟩, ho'⟩
                have ho : Only (· = C) w21 w22 := ((Only.refl (· = C) w21).drewN _).trans ho'
                have HR22 := Lib.hid (HR21.out.only ho (fun e => H21.out.far HR21.out (by decide) (by decide) (.inl e)))
                have HB22 := Lib.hid (HB21.out.only ho (fun e => H21.out.far HB21.out (by decide) (by decide) (.inl e)))
                have HCB' := Lib.hid hcb
                have HON := Lib.hid ho
                have hs22 := ho.size
                have HI22 := Lib.hid (fun es qs ts hh => IsEs.step (same_callC hCl ho) (HI21.out es qs ts hh))
                have HJ22 := Lib.hid (fun es qs ts hh => IsTs.step (same_callC hCl ho) (HJ21.out es qs ts hh))
                have HC22 := Lib.hid (fun c ts hh => LC.step (same_callC hCl ho) (HC21.out c ts hh))
                rw [HH1.out] at HCB'
                clear hcb ho ho' hcall
                obtain ⟨⟨c0, c1, c2, c3, c4, c5, c6, c7, c8, c9⟩, f0, f1, f2, f3, f4, f5, f6, f7, f8, f9⟩ := ten_free HB22.out
                obtain ⟨⟨z0, z1, z2, z3, z4, z5, z6, z7, z8, z9⟩, o0, o1, o2, o3, o4, o5, o6, o7, o8, o9⟩ := ten_free HR22.out
                go_wp2_with fail
                refine bodyPost_ret (results_cell_row (p := 2) rfl _ _ R 29 #[.string X, .int .i64 vn, .slice a m c, .slice a2 m2 q2, .int .i64 1, .int .i64 xo, .int .i64 xt, .string xs, .int .i64 xn, .slice xa xm xc] (0, 0) _ rfl (put10 (show Blk w22 R 29 #[.string ⟨#[]⟩, .int .i64 0, .slice none 0 0, .slice none 0 0, .int .i64 0, .int .i64 0, .int .i64 0, .string ⟨#[]⟩, .int .i64 0, .slice none 0 0] from HR22.out)) Try.underlying29 rfl (by kernel_rfl)) rfl ?_
                have hCR : C ≠ R := by omega
                have hpR : pv5.ownBlock ≠ some R := own_ne (own_only H21.out.own HON.out (fun k hk e => H21.out.notC k hk e)) HR22.out (by decide)
                have hpt : Only (fun b => b = R) w22 (put10w w22 R (.string X) (.int .i64 vn) (.slice a m c) (.slice a2 m2 q2) (.int .i64 1) (.int .i64 xo) (.int .i64 xt) (.string xs) (.int .i64 xn) (.slice xa xm xc)) := Only.put10 (Only.refl (fun b => b = R) w22) (.inl rfl) (.string X) (.int .i64 vn) (.slice a m c) (.slice a2 m2 q2) (.int .i64 1) (.int .i64 xo) (.int .i64 xt) (.string xs) (.int .i64 xn) (.slice xa xm xc)
                refine ⟨_, pv5, psk ++ [x5], rfl, ⟨_, _, _, _, _, _, _, _, _, _, _, _, _, _, _, _, rfl⟩, ⟨_, _, by rw [HSE.out]; exact Blk.only HCB'.out hpt hCR⟩, own_only (own_only H21.out.own HON.out (fun k hk e => H21.out.notC k hk e)) hpt (fun k hk e => hpR (e ▸ hk)), (H21.out.only.then HON.out (fun j hj => .inl (.inl hj))).then hpt (fun j hj => .inr (by omega)), H21.out.fr, ?_⟩
                rintro p qs ⟨nm, r1, v, r2, cs, ps, r5, bl, q3, r6, kk, r7, cc, r8, g1, g2, g3, g4, g5, g6, rfl, rfl⟩
                have e1 := HTn.out nm r1 g1
                injection e1 with e1
                have e2 := HTv.out v r2 g2
                injection e2 with _ e2
                have e3 := HAK.out kk r7 g5
                subst e1
                subst e2
                have e4 := HPI.out cs ps r5 g3
                have e5 := HPT.out bl q3 r6 g4
                have e6 : x5 = P.here r6 := HX5.out r6 (by rw [g4]; rfl)
                refine ⟨?_, .slice a m c, .slice a2 m2 q2, xo, xt, xs, xn, xa, xm, xc, ?_, ?_, ?_, ?_⟩
                · rw [e6, e5, e4]
                  simp
                · show Value.agg #[_, _, _, _, .int .i64 1, _, _, _, _, _] = _
                  rw [e3]
                · exact IsEs.step (fun b hb hl => ⟨⟨by have := hb.1; omega, hb.2.1⟩, hpt.block b hl hb.2.2.2⟩) (HI22.out cs ps r5 g3)
                · exact IsTs.step (fun b hb hl => ⟨⟨by have := hb.1; omega, hb.2.1⟩, hpt.block b hl hb.2.2.2⟩) (HJ22.out bl q3 r6 g4)
                · exact LC.step (fun b hb hl => ⟨⟨by have := hb.1; omega, hb.2.1⟩, hpt.block b hl hb.2.2.2⟩) (HC22.out cc r8 g6)

end Go.Proofs.Ytikihomablmcnaa.Lx
