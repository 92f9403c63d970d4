/-
  stmt of the developers' cursor: contracts.
-/
import Derived.Test.YtgobcflfhabdhaaGreatDoorDStmt
namespace Go.Proofs.YtgobcflfhabdhaaGreatDoor.Lx
open Go.RowKit
open L (Tok)
open P (EX CO ST)
set_option maxRecDepth 100000
set_option linter.unusedVariables false
set_option linter.unusedSimpArgs false
theorem left_ahead (q : Nat) (x : P.Res (ST × List Nat)) : left (P.ahead q x) = left x := by
  rcases x with p | ⟨⟨a, b⟩, r⟩ <;> rfl
theorem ahead_ok {q : Nat} {x : P.Res (ST × List Nat)} {s : ST} {qs : List Nat} {t : List Tok} (h : P.ahead q x = .ok ((s, qs), t)) : ∃ q1, x = .ok ((s, q1), t) ∧ qs = q :: q1 := by
  rcases x with p | ⟨⟨a, b⟩, r⟩
  · cases h
  · cases h
    exact ⟨_, rfl, rfl⟩
theorem store_eq (st : Sta) : left (on st P.storeF) = left (on (left (on st accF)) P.pExpr) ∧ ∀ s ts, on st P.storeF = .ok (s, ts) → ∃ m l r x, on st accF = .ok ((m, l), r) ∧ on (left (on st accF)) P.pExpr = .ok (x, ts) ∧ s = .mk 3 m [] l [x] [] [] := by
  rcases st with q | ts
  · exact ⟨rfl, fun _ _ h => by cases h⟩
  · simp only [on, P.storeF, accF]
    cases P.pMode ts with
    | error p => exact ⟨rfl, fun _ _ h => by cases h⟩
    | ok x =>
      obtain ⟨m, r1⟩ := x
      simp only
      cases P.pName r1 with
      | error p => exact ⟨rfl, fun _ _ h => by cases h⟩
      | ok y =>
        obtain ⟨l, r2⟩ := y
        simp only [left]
        cases P.pExpr r2 with
        | error p => exact ⟨rfl, fun _ _ h => by cases h⟩
        | ok z => exact ⟨rfl, fun _ _ h => by cases h; exact ⟨_, _, _, _, rfl, rfl, rfl⟩⟩
theorem fence_eq (st : Sta) : left (on st P.fenceF) = left (on st P.pMode) ∧ ∀ s ts, on st P.fenceF = .ok (s, ts) → ∃ m, on st P.pMode = .ok (m, ts) ∧ s = .mk 6 (m : Nat) [] [] [] [] [] := by
  rcases st with q | ts
  · exact ⟨rfl, fun _ _ h => by cases h⟩
  · simp only [on, P.fenceF]
    cases P.pMode ts with
    | error p => exact ⟨rfl, fun _ _ h => by cases h⟩
    | ok x => exact ⟨rfl, fun _ _ h => by cases h; exact ⟨_, rfl, rfl⟩⟩
theorem set_eq {rg : List UInt8} {ts : List Tok} (h : ∀ a r, on (.ok ts) P.pName = .ok (a, r) → rg = a) : on (onNeed [61] (left (on (.ok ts) P.pName))) (P.rightF rg) = P.setF ts := by
  unfold P.setF
  simp only [on] at h ⊢
  cases h1 : P.pName ts with
  | error p => rfl
  | ok x =>
    obtain ⟨a, r⟩ := x
    obtain rfl := h a r h1
    simp only [left, onNeed]
    cases P.need [61] r <;> rfl
theorem agg7_inj {a b c d e f g a' b' c' d' e' f' g' : Value} (h : Value.agg #[a, b, c, d, e, f, g] = .agg #[a', b', c', d', e', f', g']) : a = a' ∧ b = b' ∧ c = c' ∧ d = d' ∧ e = e' ∧ f = f' ∧ g = g' := by
  injection h with h
  simpa using h
set_option maxHeartbeats 3200000 in
theorem stmt_if_d (n : Nat) (C g base : Nat) (TS : List Tok) (pv : Value) (ps : List Nat) (ts : List Tok) (w : World) (h : Dc w C g TS pv (.ok ts)) (hp : OwnP w base pv ps) (hg : g < base) (hbase : base ≤ w.heap.size) (hn : ps.length + ts.length ≤ 50000) (hI : P.isS [105, 102] ts = true) (hBl : ∀ st' pv ps w, Dc w C g TS pv st' → OwnP w base pv ps → base ≤ w.heap.size → ps.length + slen st' ≤ 50000 → slen st' < ts.length → Calls Tryz.prog 86 #[.pointer (some ⟨C, 0, none⟩)] w (PtD IsSs AnySl C g base TS pv ps (slen st') (on st' (P.blockF (P.stmtN n))) w)) :
    Calls Tryz.prog 107 #[.pointer (some ⟨C, 0, none⟩)] w (PtD LS AnyS C g base TS pv ps ts.length (P.stmtN (n + 1) ts) w) := by
  obtain ⟨hCl, hgl⟩ := h.lts
  have hlive := h.live
  have hlt := slen_less (P.stmtN_less (n + 1)) hlive
  have H0 := Lib.hid (Cp.start h hp)
  have HI := Lib.hid (show onIs [105, 102] (.ok ts) = true from hI)
  have HE := Lib.hid (P.stmt_if (n := n) hI)
  have HBl := Lib.hid hBl
  clear hI hBl
  have HNA := Lib.hid (nxt_at (ts := ts))
  clear h hp
  go_enter Tryz.func107, Tryz.ntmps107
  go_wp2_with fail
  have hbA : Below w.heap.size w (w.alloc (.cells #[.int .i64 0, .int .i64 0, .string ⟨#[]⟩, .string ⟨#[]⟩, .slice none 0 0, .slice none 0 0, .slice none 0 0] 52)) := (Below.refl _ _).alloc (Nat.le_refl _) _
  have HR0 := Lib.hid (Blk.new w 52 #[.int .i64 0, .int .i64 0, .string ⟨#[]⟩, .string ⟨#[]⟩, .slice none 0 0, .slice none 0 0, .slice none 0 0])
  have H1 := Lib.hid (H0.out.call (Only.of_below hbA) (H0.out.dc.below hbA))
  have hsA : w.heap.size < (w.alloc (.cells #[.int .i64 0, .int .i64 0, .string ⟨#[]⟩, .string ⟨#[]⟩, .slice none 0 0, .slice none 0 0, .slice none 0 0] 52)).heap.size := HR0.out.lt
  clear hbA
  generalize w.alloc (.cells #[.int .i64 0, .int .i64 0, .string ⟨#[]⟩, .string ⟨#[]⟩, .slice none 0 0, .slice none 0 0, .slice none 0 0] 52) = w1 at *
  generalize hSe : w.heap.size = R at *
  have hRw : w.heap.size ≤ R := by omega
  have hRw' : R ≤ w.heap.size := by omega
  clear hSe
  with_reducible refine (part_d C g base TS pv ps (.ok ts) _ H1.out.dc H1.out.own hg (by omega) (by omega)).mono ?_
  rintro e w2 ⟨pv2, rfl, hd, hp, ho, hf⟩
  rw [HNA.out] at hp
  have hpl : (ps ++ [P.here ts]).length = ps.length + 1 := by simp
  have HR2 := Lib.hid (HR0.out.only ho (H1.out.far HR0.out (by decide) (by decide)))
  have H2 := Lib.hid (H1.out.on hd hp ho hf)
  have hs2 := ho.size
  clear hd hp ho hf H0 H1 HR0
  go_wp2_with fail
  with_reducible refine (pass_d C g TS pv2 (.ok ts) ⟨#[105, 102]⟩ _ H2.out.dc (by decide)).mono ?_
  rintro e w3 ⟨rfl, hd, ho⟩
  rw [show by' (⟨#[105, 102]⟩ : ByteArray) = [105, 102] from rfl, HI.out] at hd ⊢
  have HR3 := Lib.hid (HR2.out.only ho (fun e => H2.out.far HR2.out (by decide) (by decide) (.inl e)))
  have H3 := Lib.hid (H2.out.call (st2 := tl (.ok ts)) ho hd)
  have hs3 := ho.size
  clear hd ho
  go_wp2_with fail
  have htl : slen (tl (.ok ts)) + 1 ≤ ts.length := by
    show ts.tail.length + 1 ≤ ts.length
    rw [List.length_tail]
    omega
  with_reducible refine (choice_d n C g base TS pv2 (ps ++ [P.here ts]) (tl (.ok ts)) _ H3.out.dc H3.out.own hg (by omega) (by rw [hpl]; omega) (fun st' pv ps w h1 h2 h3 h4 h5 => HBl.out st' pv ps w h1 h2 h3 h4 (by omega))).mono ?_
  rintro e w4 ⟨v, pv4, ps4, rfl, ⟨kd, md, rg, lc, x1, n1, k1, x2, n2, k2, x3, n3, k3, rfl⟩, hd, hp, hb4, ho, hf, hv⟩
  have HR4 := Lib.hid (HR3.out.only ho (H3.out.far HR3.out (by decide) (by decide)))
  have H4 := Lib.hid (H3.out.on hd hp ho hf)
  have HV := Lib.hid hv
  have hs4 := ho.size
  clear hd hp ho hf hv
  obtain ⟨z0, z1, z2, z3, z4, z5, z6, o0, o1, o2, o3, o4, o5, o6⟩ := seven_free HR4.out
  go_wp2_with fail
  refine bodyPost_ret (results_cell_row (p := 2) rfl _ _ R 52 #[.int .i64 kd, .int .i64 md, .string rg, .string lc, .slice x1 n1 k1, .slice x2 n2 k2, .slice x3 n3 k3] (0, 0) _ rfl (put7 HR4.out) Tryz.underlying52 rfl (by kernel_rfl)) rfl ?_
  have hle : left (P.stmtN (n + 1) ts) = left (on (tl (.ok ts)) (P.choiceF n)) := by
    rw [HE.out]
    exact left_ahead _ _
  refine stmt_done H4.out hle HR4.out (by omega) (by omega) (by rw [hle]; rw [hpl] at hb4; omega) ⟨_, _, _, _, _, _, _, _, _, _, _, _, _, rfl⟩ fun s qs t hh => ?_
  rw [HE.out] at hh
  obtain ⟨q1, hc, rfl⟩ := ahead_ok hh
  obtain ⟨h1, h2⟩ := HV.out s q1 t hc
  refine ⟨by rw [h1, List.append_assoc]; rfl, LS.mono (fun b hb _ => ⟨⟨by have := hb.1; omega, hb.2⟩, by have := hb.1; omega⟩) _ h2⟩
set_option maxHeartbeats 3200000 in
theorem stmt_store_d (n : Nat) (C g base : Nat) (TS : List Tok) (pv : Value) (ps : List Nat) (ts : List Tok) (w : World) (h : Dc w C g TS pv (.ok ts)) (hp : OwnP w base pv ps) (hg : g < base) (hbase : base ≤ w.heap.size) (hn : ps.length + ts.length ≤ 50000) (hI : P.isS [105, 102] ts = false) (hS : P.isS [115, 116, 111, 114, 101] ts = true) :
    Calls Tryz.prog 107 #[.pointer (some ⟨C, 0, none⟩)] w (PtD LS AnyS C g base TS pv ps ts.length (P.stmtN (n + 1) ts) w) := by
  obtain ⟨hCl, hgl⟩ := h.lts
  have hlive := h.live
  have hlt := slen_less (P.stmtN_less (n + 1)) hlive
  have H0 := Lib.hid (Cp.start h hp)
  have HI := Lib.hid (show onIs [105, 102] (.ok ts) = false from hI)
  have HS := Lib.hid (show onIs [115, 116, 111, 114, 101] (.ok ts) = true from hS)
  have HE := Lib.hid (P.stmt_store (n := n) hS)
  have HQ := Lib.hid (store_eq (tl (.ok ts)))
  clear hI hS
  have HNA := Lib.hid (nxt_at (ts := ts))
  clear h hp
  go_enter Tryz.func107, Tryz.ntmps107
  go_wp2_with fail
  have hbA : Below w.heap.size w (w.alloc (.cells #[.int .i64 0, .int .i64 0, .string ⟨#[]⟩, .string ⟨#[]⟩, .slice none 0 0, .slice none 0 0, .slice none 0 0] 52)) := (Below.refl _ _).alloc (Nat.le_refl _) _
  have HR0 := Lib.hid (Blk.new w 52 #[.int .i64 0, .int .i64 0, .string ⟨#[]⟩, .string ⟨#[]⟩, .slice none 0 0, .slice none 0 0, .slice none 0 0])
  have H1 := Lib.hid (H0.out.call (Only.of_below hbA) (H0.out.dc.below hbA))
  have hsA : w.heap.size < (w.alloc (.cells #[.int .i64 0, .int .i64 0, .string ⟨#[]⟩, .string ⟨#[]⟩, .slice none 0 0, .slice none 0 0, .slice none 0 0] 52)).heap.size := HR0.out.lt
  clear hbA
  generalize w.alloc (.cells #[.int .i64 0, .int .i64 0, .string ⟨#[]⟩, .string ⟨#[]⟩, .slice none 0 0, .slice none 0 0, .slice none 0 0] 52) = w1 at *
  generalize hSe : w.heap.size = R at *
  have hRw : w.heap.size ≤ R := by omega
  have hRw' : R ≤ w.heap.size := by omega
  clear hSe
  with_reducible refine (part_d C g base TS pv ps (.ok ts) _ H1.out.dc H1.out.own hg (by omega) (by omega)).mono ?_
  rintro e w2 ⟨pv2, rfl, hd, hp, ho, hf⟩
  rw [HNA.out] at hp
  have hpl : (ps ++ [P.here ts]).length = ps.length + 1 := by simp
  have HR2 := Lib.hid (HR0.out.only ho (H1.out.far HR0.out (by decide) (by decide)))
  have H2 := Lib.hid (H1.out.on hd hp ho hf)
  have hs2 := ho.size
  clear hd hp ho hf H0 H1 HR0
  go_wp2_with fail
  with_reducible refine (pass_d C g TS pv2 (.ok ts) ⟨#[105, 102]⟩ _ H2.out.dc (by decide)).mono ?_
  rintro e w3 ⟨rfl, hd, ho⟩
  rw [show by' (⟨#[105, 102]⟩ : ByteArray) = [105, 102] from rfl, HI.out] at hd ⊢
  have HR3 := Lib.hid (HR2.out.only ho (fun e => H2.out.far HR2.out (by decide) (by decide) (.inl e)))
  have H3 := Lib.hid (H2.out.call (st2 := .ok ts) ho hd)
  have hs3 := ho.size
  clear hd ho
  go_wp2_with fail
  have hbA : Below w3.heap.size w3 (w3.alloc (.cells #[.int .i64 0, .int .i64 0, .string ⟨#[]⟩, .string ⟨#[]⟩, .slice none 0 0, .slice none 0 0, .slice none 0 0] 52)) := (Below.refl _ _).alloc (Nat.le_refl _) _
  have HB4 := Lib.hid (Blk.new w3 52 #[.int .i64 0, .int .i64 0, .string ⟨#[]⟩, .string ⟨#[]⟩, .slice none 0 0, .slice none 0 0, .slice none 0 0])
  have HR4 := Lib.hid (HR3.out.alloc (.cells #[.int .i64 0, .int .i64 0, .string ⟨#[]⟩, .string ⟨#[]⟩, .slice none 0 0, .slice none 0 0, .slice none 0 0] 52))
  have H4 := Lib.hid (H3.out.call (Only.of_below hbA) (H3.out.dc.below hbA))
  have hs4 : w3.heap.size < (w3.alloc (.cells #[.int .i64 0, .int .i64 0, .string ⟨#[]⟩, .string ⟨#[]⟩, .slice none 0 0, .slice none 0 0, .slice none 0 0] 52)).heap.size := HB4.out.lt
  clear hbA
  generalize w3.alloc (.cells #[.int .i64 0, .int .i64 0, .string ⟨#[]⟩, .string ⟨#[]⟩, .slice none 0 0, .slice none 0 0, .slice none 0 0] 52) = w4 at *
  generalize hSe : w3.heap.size = B at *
  have hBw : w3.heap.size ≤ B := by omega
  have hBw' : B ≤ w3.heap.size := by omega
  clear hSe
  with_reducible refine (pass_d C g TS pv2 (.ok ts) ⟨#[115, 116, 111, 114, 101]⟩ _ H4.out.dc (by decide)).mono ?_
  rintro e w5 ⟨rfl, hd, ho⟩
  rw [show by' (⟨#[115, 116, 111, 114, 101]⟩ : ByteArray) = [115, 116, 111, 114, 101] from rfl, HS.out] at hd ⊢
  have HR5 := Lib.hid (HR4.out.only ho (fun e => H4.out.far HR4.out (by decide) (by decide) (.inl e)))
  have HB5 := Lib.hid (HB4.out.only ho (fun e => H4.out.far HB4.out (by decide) (by decide) (.inl e)))
  have H5 := Lib.hid (H4.out.call (st2 := tl (.ok ts)) ho hd)
  have hs5 := ho.size
  clear hd ho
  go_wp2_with fail
  have hgB5 : B ≠ g := by omega
  have HA5 := Lib.hid (show At7 w5 w5 B C g TS pv2 _ _ _ _ _ _ _ _ from ⟨HB5.out, H5.out.dc, fun e => H5.out.far HB5.out (by decide) (by decide) (.inl e), hgB5, Only.refl _ _⟩)
  with_reducible refine (access_d 3 _ _ B C g TS pv2 _ _ _ _ _ _ _ _ HA5.out).mono ?_
  rintro e w6 ⟨m, l, rfl, h7, hml⟩
  have HB6 := Lib.hid h7.blk
  have HR6 := Lib.hid (HR5.out.only h7.only (by
    rintro (e | e)
    · exact H5.out.far HR5.out (by decide) (by decide) (.inl e)
    · omega))
  have H6 := Lib.hid (H5.out.near (B := B) (by omega) (fun e => H5.out.far HB5.out (by decide) (by decide) (.inr e)) h7.only h7.dc)
  have hs6 := h7.only.size
  have HML := Lib.hid hml
  clear h7 hml HA5
  go_wp2_with fail
  with_reducible refine (exprTot_d C g TS pv2 _ _ H6.out.dc).mono ?_
  rintro e w7 ⟨v, rfl, ⟨ox, mx, sx, ax, nx, cx, rfl⟩, hd, ho, hx⟩
  have HR7 := Lib.hid (HR6.out.only ho (fun e => H6.out.far HR6.out (by decide) (by decide) (.inl e)))
  have HB7 := Lib.hid (HB6.out.only ho (fun e => H6.out.far HB6.out (by decide) (by decide) (.inl e)))
  have H7 := Lib.hid (H6.out.call ho hd)
  have HX := Lib.hid hx
  have hs7 := ho.size
  clear hd ho hx
  obtain ⟨c0, c1, c2, c3, c4, c5, c6, f0, f1, f2, f3, f4, f5, f6⟩ := seven_free HB7.out
  have hRl : B < w7.heap.size := HB7.out.lt
  have hpb : ∀ b, pv2.ownBlock = some b → b < w2.heap.size := fun b hb => (H2.out.own.lt b hb).2
  have HPB := Lib.hid hpb
  clear hpb
  go_wp2_with fail
  clear c0 c1 c2 c3 c4 c5 c6 f0 f1 f2 f3 f4 f5 f6
  have hbA : Below w7.heap.size (w7.setCell ⟨B, 4, none⟩ (.slice (some ⟨w7.heap.size, 0, none⟩) 1 1)) ((w7.setCell ⟨B, 4, none⟩ (.slice (some ⟨w7.heap.size, 0, none⟩) 1 1)).alloc (.cells #[.int .i64 ox, .int .i64 mx, .string sx, .slice ax nx cx] 46)) := (Below.refl _ _).alloc (by simp) _
  have hbs : (w7.setCell ⟨B, 4, none⟩ (.slice (some ⟨w7.heap.size, 0, none⟩) 1 1)).heap.size = w7.heap.size := by simp
  have H8' := H7.out.set (by omega) (by omega) HB7.out 4 (.slice (some ⟨w7.heap.size, 0, none⟩) 1 1)
  have H8 := Lib.hid (H8'.call (Only.of_below (by rw [hbs]; exact hbA)) (H8'.dc.below (by rw [hbs]; exact hbA)))
  have HB8 := Lib.hid ((HB7.out.set 4 (.slice (some ⟨w7.heap.size, 0, none⟩) 1 1)).alloc (.cells #[.int .i64 ox, .int .i64 mx, .string sx, .slice ax nx cx] 46))
  have HR8 := Lib.hid ((HR7.out.only (only_set w7 B 4 (.slice (some ⟨w7.heap.size, 0, none⟩) 1 1)) (by omega)).alloc (.cells #[.int .i64 ox, .int .i64 mx, .string sx, .slice ax nx cx] 46))
  have HX8 := Lib.hid (fun x ts hh => lxs_one (Q := NwB R pv2 B R) (arg_blk w7 B (.slice (some ⟨w7.heap.size, 0, none⟩) 1 1) #[.int .i64 ox, .int .i64 mx, .string sx, .slice ax nx cx]) (arg_keep (LX.mono (fun b hb _ => ⟨by unfold From at hb; omega, fun e => by have := HPB.out b e; unfold From at hb; omega, by unfold From at hb; omega, by unfold From at hb; omega⟩) _ (HX.out x ts hh)) (fun hq => hq.2.2.1 rfl) (.slice (some ⟨w7.heap.size, 0, none⟩) 1 1) (.cells #[.int .i64 ox, .int .i64 mx, .string sx, .slice ax nx cx] 46)))
  have HQK := Lib.hid (show NwB R pv2 B R w7.heap.size from ⟨by omega, fun e => by have := HPB.out _ e; omega, by omega, by omega⟩)
  have hs8 : w7.heap.size < ((w7.setCell ⟨B, 4, none⟩ (.slice (some ⟨w7.heap.size, 0, none⟩) 1 1)).alloc (.cells #[.int .i64 ox, .int .i64 mx, .string sx, .slice ax nx cx] 46)).heap.size := by simp
  clear H8' hbA hbs HX
  generalize (w7.setCell ⟨B, 4, none⟩ (.slice (some ⟨w7.heap.size, 0, none⟩) 1 1)).alloc (.cells #[.int .i64 ox, .int .i64 mx, .string sx, .slice ax nx cx] 46) = w8 at *
  generalize hKe : w7.heap.size = K at *
  have hKw : K ≤ w7.heap.size := by omega
  clear hKe
  with_reducible refine (want_d C g TS pv2 _ ⟨#[59]⟩ _ H8.out.dc (by decide)).mono ?_
  rintro e w9 ⟨rfl, hd, ho⟩
  have HR9 := Lib.hid (HR8.out.only ho (fun e => H8.out.far HR8.out (by decide) (by decide) (.inl e)))
  have HB9 := Lib.hid (HB8.out.only ho (fun e => H8.out.far HB8.out (by decide) (by decide) (.inl e)))
  have H9 := Lib.hid (H8.out.call ho hd)
  have hs9 := ho.size
  have HKP := Lib.hid ho
  clear hd ho
  obtain ⟨c0, c1, c2, c3, c4, c5, c6, f0, f1, f2, f3, f4, f5, f6⟩ := seven_free HB9.out
  obtain ⟨z0, z1, z2, z3, z4, z5, z6, o0, o1, o2, o3, o4, o5, o6⟩ := seven_free HR9.out
  go_wp2_with fail
  refine bodyPost_ret (results_cell_row (p := 2) rfl _ _ R 52 #[.int .i64 3, .int .i64 m, .string ⟨#[]⟩, .string l, .slice (some ⟨K, 0, none⟩) 1 1, .slice none 0 0, .slice none 0 0] (0, 0) _ rfl (put7 HR9.out) Tryz.underlying52 rfl (by kernel_rfl)) rfl ?_
  have hpb : ∀ b, pv2.ownBlock = some b → b < w2.heap.size := fun b hb => (H2.out.own.lt b hb).2
  refine stmt_done H9.out (by rw [HE.out, semi_left]; exact congrArg (onNeed [59]) HQ.out.1) HR9.out (by omega) (by omega) (by rw [hpl]; omega) ⟨_, _, _, _, _, _, _, _, _, _, _, _, _, rfl⟩ fun s qs t hh => ?_
  rw [HE.out] at hh
  obtain ⟨⟨t1, hx⟩, rfl⟩ := P.semi_ok hh
  refine ⟨rfl, ?_⟩
  obtain ⟨m', l', r, x, h1, h2, rfl⟩ := HQ.out.2 s t1 hx
  obtain ⟨rfl, rfl⟩ := HML.out m' l' r h1
  obtain ⟨hk, hxs⟩ := LXs.step (same_callC (B := B) (R := R) (n := R) hCl HKP.out) HQK.out (by simp) (HX8.out x t1 h2)
  exact LS.mono (fun b hb _ => ⟨⟨by have := hb.1; omega, hb.2.1⟩, hb.2.2.2⟩) _ (ls_args (by simp) hk hxs)
set_option maxHeartbeats 3200000 in
theorem stmt_fence_d (n : Nat) (C g base : Nat) (TS : List Tok) (pv : Value) (ps : List Nat) (ts : List Tok) (w : World) (h : Dc w C g TS pv (.ok ts)) (hp : OwnP w base pv ps) (hg : g < base) (hbase : base ≤ w.heap.size) (hn : ps.length + ts.length ≤ 50000) (hI : P.isS [105, 102] ts = false) (hS : P.isS [115, 116, 111, 114, 101] ts = false) (hF : P.isS [102, 101, 110, 99, 101] ts = true) :
    Calls Tryz.prog 107 #[.pointer (some ⟨C, 0, none⟩)] w (PtD LS AnyS C g base TS pv ps ts.length (P.stmtN (n + 1) ts) w) := by
  obtain ⟨hCl, hgl⟩ := h.lts
  have hlive := h.live
  have hlt := slen_less (P.stmtN_less (n + 1)) hlive
  have H0 := Lib.hid (Cp.start h hp)
  have HI := Lib.hid (show onIs [105, 102] (.ok ts) = false from hI)
  have HS := Lib.hid (show onIs [115, 116, 111, 114, 101] (.ok ts) = false from hS)
  have HF := Lib.hid (show onIs [102, 101, 110, 99, 101] (.ok ts) = true from hF)
  have HE := Lib.hid (P.stmt_fence (n := n) hS hF)
  have HQ := Lib.hid (fence_eq (tl (.ok ts)))
  clear hI hS hF
  have HNA := Lib.hid (nxt_at (ts := ts))
  clear h hp
  go_enter Tryz.func107, Tryz.ntmps107
  go_wp2_with fail
  have hbA : Below w.heap.size w (w.alloc (.cells #[.int .i64 0, .int .i64 0, .string ⟨#[]⟩, .string ⟨#[]⟩, .slice none 0 0, .slice none 0 0, .slice none 0 0] 52)) := (Below.refl _ _).alloc (Nat.le_refl _) _
  have HR0 := Lib.hid (Blk.new w 52 #[.int .i64 0, .int .i64 0, .string ⟨#[]⟩, .string ⟨#[]⟩, .slice none 0 0, .slice none 0 0, .slice none 0 0])
  have H1 := Lib.hid (H0.out.call (Only.of_below hbA) (H0.out.dc.below hbA))
  have hsA : w.heap.size < (w.alloc (.cells #[.int .i64 0, .int .i64 0, .string ⟨#[]⟩, .string ⟨#[]⟩, .slice none 0 0, .slice none 0 0, .slice none 0 0] 52)).heap.size := HR0.out.lt
  clear hbA
  generalize w.alloc (.cells #[.int .i64 0, .int .i64 0, .string ⟨#[]⟩, .string ⟨#[]⟩, .slice none 0 0, .slice none 0 0, .slice none 0 0] 52) = w1 at *
  generalize hSe : w.heap.size = R at *
  have hRw : w.heap.size ≤ R := by omega
  have hRw' : R ≤ w.heap.size := by omega
  clear hSe
  with_reducible refine (part_d C g base TS pv ps (.ok ts) _ H1.out.dc H1.out.own hg (by omega) (by omega)).mono ?_
  rintro e w2 ⟨pv2, rfl, hd, hp, ho, hf⟩
  rw [HNA.out] at hp
  have hpl : (ps ++ [P.here ts]).length = ps.length + 1 := by simp
  have HR2 := Lib.hid (HR0.out.only ho (H1.out.far HR0.out (by decide) (by decide)))
  have H2 := Lib.hid (H1.out.on hd hp ho hf)
  have hs2 := ho.size
  clear hd hp ho hf H0 H1 HR0
  go_wp2_with fail
  with_reducible refine (pass_d C g TS pv2 (.ok ts) ⟨#[105, 102]⟩ _ H2.out.dc (by decide)).mono ?_
  rintro e w3 ⟨rfl, hd, ho⟩
  rw [show by' (⟨#[105, 102]⟩ : ByteArray) = [105, 102] from rfl, HI.out] at hd ⊢
  have HR3 := Lib.hid (HR2.out.only ho (fun e => H2.out.far HR2.out (by decide) (by decide) (.inl e)))
  have H3 := Lib.hid (H2.out.call (st2 := .ok ts) ho hd)
  have hs3 := ho.size
  clear hd ho
  go_wp2_with fail
  have hbA : Below w3.heap.size w3 (w3.alloc (.cells #[.int .i64 0, .int .i64 0, .string ⟨#[]⟩, .string ⟨#[]⟩, .slice none 0 0, .slice none 0 0, .slice none 0 0] 52)) := (Below.refl _ _).alloc (Nat.le_refl _) _
  have HB4 := Lib.hid (Blk.new w3 52 #[.int .i64 0, .int .i64 0, .string ⟨#[]⟩, .string ⟨#[]⟩, .slice none 0 0, .slice none 0 0, .slice none 0 0])
  have HR4 := Lib.hid (HR3.out.alloc (.cells #[.int .i64 0, .int .i64 0, .string ⟨#[]⟩, .string ⟨#[]⟩, .slice none 0 0, .slice none 0 0, .slice none 0 0] 52))
  have H4 := Lib.hid (H3.out.call (Only.of_below hbA) (H3.out.dc.below hbA))
  have hs4 : w3.heap.size < (w3.alloc (.cells #[.int .i64 0, .int .i64 0, .string ⟨#[]⟩, .string ⟨#[]⟩, .slice none 0 0, .slice none 0 0, .slice none 0 0] 52)).heap.size := HB4.out.lt
  clear hbA
  generalize w3.alloc (.cells #[.int .i64 0, .int .i64 0, .string ⟨#[]⟩, .string ⟨#[]⟩, .slice none 0 0, .slice none 0 0, .slice none 0 0] 52) = w4 at *
  generalize hSe : w3.heap.size = B at *
  have hBw : w3.heap.size ≤ B := by omega
  have hBw' : B ≤ w3.heap.size := by omega
  clear hSe
  with_reducible refine (pass_d C g TS pv2 (.ok ts) ⟨#[115, 116, 111, 114, 101]⟩ _ H4.out.dc (by decide)).mono ?_
  rintro e w5 ⟨rfl, hd, ho⟩
  rw [show by' (⟨#[115, 116, 111, 114, 101]⟩ : ByteArray) = [115, 116, 111, 114, 101] from rfl, HS.out] at hd ⊢
  have HR5 := Lib.hid (HR4.out.only ho (fun e => H4.out.far HR4.out (by decide) (by decide) (.inl e)))
  have HB5 := Lib.hid (HB4.out.only ho (fun e => H4.out.far HB4.out (by decide) (by decide) (.inl e)))
  have H5 := Lib.hid (H4.out.call (st2 := .ok ts) ho hd)
  have hs5 := ho.size
  clear hd ho
  go_wp2_with fail
  with_reducible refine (pass_d C g TS pv2 (.ok ts) ⟨#[102, 101, 110, 99, 101]⟩ _ H5.out.dc (by decide)).mono ?_
  rintro e w6 ⟨rfl, hd, ho⟩
  rw [show by' (⟨#[102, 101, 110, 99, 101]⟩ : ByteArray) = [102, 101, 110, 99, 101] from rfl, HF.out] at hd ⊢
  have HR6 := Lib.hid (HR5.out.only ho (fun e => H5.out.far HR5.out (by decide) (by decide) (.inl e)))
  have HB6 := Lib.hid (HB5.out.only ho (fun e => H5.out.far HB5.out (by decide) (by decide) (.inl e)))
  have H6 := Lib.hid (H5.out.call (st2 := tl (.ok ts)) ho hd)
  have hs6 := ho.size
  clear hd ho
  obtain ⟨c0, c1, c2, c3, c4, c5, c6, f0, f1, f2, f3, f4, f5, f6⟩ := seven_free HB6.out
  go_wp2_with fail
  clear c0 c1 c2 c3 c4 c5 c6 f0 f1 f2 f3 f4 f5 f6
  have HR7 := Lib.hid (HR6.out.only (only_set w6 B 0 (.int .i64 6)) (by omega))
  have H7 := Lib.hid (H6.out.set (by omega) (by omega) HB6.out 0 (.int .i64 6))
  have HB7 := Lib.hid (HB6.out.set 0 (.int .i64 6))
  have hs7 := (only_set w6 B 0 (.int .i64 6)).size
  generalize w6.setCell ⟨B, 0, none⟩ (.int .i64 6) = w7 at *
  with_reducible refine (mode_d C g TS pv2 _ _ H7.out.dc).mono ?_
  rintro e w8 ⟨v, rfl, ⟨m, rfl⟩, hd, ho, hm⟩
  have HR8 := Lib.hid (HR7.out.only ho (fun e => H7.out.far HR7.out (by decide) (by decide) (.inl e)))
  have HB8 := Lib.hid (HB7.out.only ho (fun e => H7.out.far HB7.out (by decide) (by decide) (.inl e)))
  have H8 := Lib.hid (H7.out.call ho hd)
  have HM := Lib.hid hm
  have hs8 := ho.size
  clear hd ho hm
  obtain ⟨c0, c1, c2, c3, c4, c5, c6, f0, f1, f2, f3, f4, f5, f6⟩ := seven_free HB8.out
  go_wp2_with fail
  clear c0 c1 c2 c3 c4 c5 c6 f0 f1 f2 f3 f4 f5 f6
  have HR9 := Lib.hid (HR8.out.only (only_set w8 B 1 (.int .i64 m)) (by omega))
  have H9 := Lib.hid (H8.out.set (by omega) (by omega) HB8.out 1 (.int .i64 m))
  have HB9 := Lib.hid (HB8.out.set 1 (.int .i64 m))
  have hs9 := (only_set w8 B 1 (.int .i64 m)).size
  generalize w8.setCell ⟨B, 1, none⟩ (.int .i64 m) = w9 at *
  with_reducible refine (want_d C g TS pv2 _ ⟨#[59]⟩ _ H9.out.dc (by decide)).mono ?_
  rintro e w10 ⟨rfl, hd, ho⟩
  have HR10 := Lib.hid (HR9.out.only ho (fun e => H9.out.far HR9.out (by decide) (by decide) (.inl e)))
  have HB10 := Lib.hid (HB9.out.only ho (fun e => H9.out.far HB9.out (by decide) (by decide) (.inl e)))
  have H10 := Lib.hid (H9.out.call ho hd)
  have hs10 := ho.size
  have HKP := Lib.hid ho
  clear hd ho
  obtain ⟨c0, c1, c2, c3, c4, c5, c6, f0, f1, f2, f3, f4, f5, f6⟩ := seven_free HB10.out
  obtain ⟨z0, z1, z2, z3, z4, z5, z6, o0, o1, o2, o3, o4, o5, o6⟩ := seven_free HR10.out
  go_wp2_with fail
  refine bodyPost_ret (results_cell_row (p := 2) rfl _ _ R 52 #[.int .i64 6, .int .i64 m, .string ⟨#[]⟩, .string ⟨#[]⟩, .slice none 0 0, .slice none 0 0, .slice none 0 0] (0, 0) _ rfl (put7 HR10.out) Tryz.underlying52 rfl (by kernel_rfl)) rfl ?_
  have hpb : ∀ b, pv2.ownBlock = some b → b < w2.heap.size := fun b hb => (H2.out.own.lt b hb).2
  refine stmt_done H10.out (by rw [HE.out, semi_left]; exact congrArg (onNeed [59]) HQ.out.1) HR10.out (by omega) (by omega) (by rw [hpl]; omega) ⟨_, _, _, _, _, _, _, _, _, _, _, _, _, rfl⟩ fun s qs t hh => ?_
  rw [HE.out] at hh
  obtain ⟨⟨t1, hx⟩, rfl⟩ := P.semi_ok hh
  refine ⟨rfl, ?_⟩
  obtain ⟨m', h1, rfl⟩ := HQ.out.2 s t1 hx
  have e1 := HM.out m' t1 h1
  injection e1 with _ e1
  subst e1
  exact ls_none
set_option maxHeartbeats 3200000 in
theorem stmt_set_d (n : Nat) (C g base : Nat) (TS : List Tok) (pv : Value) (ps : List Nat) (ts : List Tok) (w : World) (h : Dc w C g TS pv (.ok ts)) (hp : OwnP w base pv ps) (hg : g < base) (hbase : base ≤ w.heap.size) (hn : ps.length + ts.length ≤ 50000) (hI : P.isS [105, 102] ts = false) (hS : P.isS [115, 116, 111, 114, 101] ts = false) (hF : P.isS [102, 101, 110, 99, 101] ts = false) :
    Calls Tryz.prog 107 #[.pointer (some ⟨C, 0, none⟩)] w (PtD LS AnyS C g base TS pv ps ts.length (P.stmtN (n + 1) ts) w) := by
  obtain ⟨hCl, hgl⟩ := h.lts
  have hlive := h.live
  have hlt := slen_less (P.stmtN_less (n + 1)) hlive
  have H0 := Lib.hid (Cp.start h hp)
  have HI := Lib.hid (show onIs [105, 102] (.ok ts) = false from hI)
  have HS := Lib.hid (show onIs [115, 116, 111, 114, 101] (.ok ts) = false from hS)
  have HF := Lib.hid (show onIs [102, 101, 110, 99, 101] (.ok ts) = false from hF)
  have HE := Lib.hid (P.stmt_set (n := n) hI hS hF)
  clear hI hS hF
  have HNA := Lib.hid (nxt_at (ts := ts))
  clear h hp
  go_enter Tryz.func107, Tryz.ntmps107
  go_wp2_with fail
  have hbA : Below w.heap.size w (w.alloc (.cells #[.int .i64 0, .int .i64 0, .string ⟨#[]⟩, .string ⟨#[]⟩, .slice none 0 0, .slice none 0 0, .slice none 0 0] 52)) := (Below.refl _ _).alloc (Nat.le_refl _) _
  have HR0 := Lib.hid (Blk.new w 52 #[.int .i64 0, .int .i64 0, .string ⟨#[]⟩, .string ⟨#[]⟩, .slice none 0 0, .slice none 0 0, .slice none 0 0])
  have H1 := Lib.hid (H0.out.call (Only.of_below hbA) (H0.out.dc.below hbA))
  have hsA : w.heap.size < (w.alloc (.cells #[.int .i64 0, .int .i64 0, .string ⟨#[]⟩, .string ⟨#[]⟩, .slice none 0 0, .slice none 0 0, .slice none 0 0] 52)).heap.size := HR0.out.lt
  clear hbA
  generalize w.alloc (.cells #[.int .i64 0, .int .i64 0, .string ⟨#[]⟩, .string ⟨#[]⟩, .slice none 0 0, .slice none 0 0, .slice none 0 0] 52) = w1 at *
  generalize hSe : w.heap.size = R at *
  have hRw : w.heap.size ≤ R := by omega
  have hRw' : R ≤ w.heap.size := by omega
  clear hSe
  with_reducible refine (part_d C g base TS pv ps (.ok ts) _ H1.out.dc H1.out.own hg (by omega) (by omega)).mono ?_
  rintro e w2 ⟨pv2, rfl, hd, hp, ho, hf⟩
  rw [HNA.out] at hp
  have hpl : (ps ++ [P.here ts]).length = ps.length + 1 := by simp
  have HR2 := Lib.hid (HR0.out.only ho (H1.out.far HR0.out (by decide) (by decide)))
  have H2 := Lib.hid (H1.out.on hd hp ho hf)
  have hs2 := ho.size
  clear hd hp ho hf H0 H1 HR0
  go_wp2_with fail
  with_reducible refine (pass_d C g TS pv2 (.ok ts) ⟨#[105, 102]⟩ _ H2.out.dc (by decide)).mono ?_
  rintro e w3 ⟨rfl, hd, ho⟩
  rw [show by' (⟨#[105, 102]⟩ : ByteArray) = [105, 102] from rfl, HI.out] at hd ⊢
  have HR3 := Lib.hid (HR2.out.only ho (fun e => H2.out.far HR2.out (by decide) (by decide) (.inl e)))
  have H3 := Lib.hid (H2.out.call (st2 := .ok ts) ho hd)
  have hs3 := ho.size
  clear hd ho
  go_wp2_with fail
  have hbA : Below w3.heap.size w3 (w3.alloc (.cells #[.int .i64 0, .int .i64 0, .string ⟨#[]⟩, .string ⟨#[]⟩, .slice none 0 0, .slice none 0 0, .slice none 0 0] 52)) := (Below.refl _ _).alloc (Nat.le_refl _) _
  have HB4 := Lib.hid (Blk.new w3 52 #[.int .i64 0, .int .i64 0, .string ⟨#[]⟩, .string ⟨#[]⟩, .slice none 0 0, .slice none 0 0, .slice none 0 0])
  have HR4 := Lib.hid (HR3.out.alloc (.cells #[.int .i64 0, .int .i64 0, .string ⟨#[]⟩, .string ⟨#[]⟩, .slice none 0 0, .slice none 0 0, .slice none 0 0] 52))
  have H4 := Lib.hid (H3.out.call (Only.of_below hbA) (H3.out.dc.below hbA))
  have hs4 : w3.heap.size < (w3.alloc (.cells #[.int .i64 0, .int .i64 0, .string ⟨#[]⟩, .string ⟨#[]⟩, .slice none 0 0, .slice none 0 0, .slice none 0 0] 52)).heap.size := HB4.out.lt
  clear hbA
  generalize w3.alloc (.cells #[.int .i64 0, .int .i64 0, .string ⟨#[]⟩, .string ⟨#[]⟩, .slice none 0 0, .slice none 0 0, .slice none 0 0] 52) = w4 at *
  generalize hSe : w3.heap.size = B at *
  have hBw : w3.heap.size ≤ B := by omega
  have hBw' : B ≤ w3.heap.size := by omega
  clear hSe
  with_reducible refine (pass_d C g TS pv2 (.ok ts) ⟨#[115, 116, 111, 114, 101]⟩ _ H4.out.dc (by decide)).mono ?_
  rintro e w5 ⟨rfl, hd, ho⟩
  rw [show by' (⟨#[115, 116, 111, 114, 101]⟩ : ByteArray) = [115, 116, 111, 114, 101] from rfl, HS.out] at hd ⊢
  have HR5 := Lib.hid (HR4.out.only ho (fun e => H4.out.far HR4.out (by decide) (by decide) (.inl e)))
  have HB5 := Lib.hid (HB4.out.only ho (fun e => H4.out.far HB4.out (by decide) (by decide) (.inl e)))
  have H5 := Lib.hid (H4.out.call (st2 := .ok ts) ho hd)
  have hs5 := ho.size
  clear hd ho
  go_wp2_with fail
  with_reducible refine (pass_d C g TS pv2 (.ok ts) ⟨#[102, 101, 110, 99, 101]⟩ _ H5.out.dc (by decide)).mono ?_
  rintro e w6 ⟨rfl, hd, ho⟩
  rw [show by' (⟨#[102, 101, 110, 99, 101]⟩ : ByteArray) = [102, 101, 110, 99, 101] from rfl, HF.out] at hd ⊢
  have HR6 := Lib.hid (HR5.out.only ho (fun e => H5.out.far HR5.out (by decide) (by decide) (.inl e)))
  have HB6 := Lib.hid (HB5.out.only ho (fun e => H5.out.far HB5.out (by decide) (by decide) (.inl e)))
  have H6 := Lib.hid (H5.out.call (st2 := .ok ts) ho hd)
  have hs6 := ho.size
  clear hd ho
  go_wp2_with fail
  with_reducible refine (name_d C g TS pv2 (.ok ts) _ H6.out.dc).mono ?_
  rintro e w7 ⟨t, rfl, hd, ho, ht⟩
  have HR7 := Lib.hid (HR6.out.only ho (fun e => H6.out.far HR6.out (by decide) (by decide) (.inl e)))
  have HB7 := Lib.hid (HB6.out.only ho (fun e => H6.out.far HB6.out (by decide) (by decide) (.inl e)))
  have H7 := Lib.hid (H6.out.call ho hd)
  have HQ := Lib.hid (set_eq (rg := t.text) ht)
  have hs7 := ho.size
  clear hd ho ht
  obtain ⟨tk, tx, tn, ta⟩ := t
  rw [tokV]
  have q1 := fun w => tf1 (.int .i64 tk) (.string (bs tx)) (.int .i64 tn) (.int .i64 ta) w
  generalize hX : bs tx = X at *
  have HXX := Lib.hid hX
  clear hX
  obtain ⟨c0, c1, c2, c3, c4, c5, c6, f0, f1, f2, f3, f4, f5, f6⟩ := seven_free HB7.out
  go_wp2_with fail
  clear q1
  clear c0 c1 c2 c3 c4 c5 c6 f0 f1 f2 f3 f4 f5 f6
  have HR8 := Lib.hid (HR7.out.only (only_set w7 B 2 (.string X)) (by omega))
  have H8 := Lib.hid (H7.out.set (by omega) (by omega) HB7.out 2 (.string X))
  have HB8 := Lib.hid (HB7.out.set 2 (.string X))
  have hs8 := (only_set w7 B 2 (.string X)).size
  generalize w7.setCell ⟨B, 2, none⟩ (.string X) = w8 at *
  with_reducible refine (want_d C g TS pv2 _ ⟨#[61]⟩ _ H8.out.dc (by decide)).mono ?_
  rintro e w9 ⟨rfl, hd, ho⟩
  have HR9 := Lib.hid (HR8.out.only ho (fun e => H8.out.far HR8.out (by decide) (by decide) (.inl e)))
  have HB9 := Lib.hid (HB8.out.only ho (fun e => H8.out.far HB8.out (by decide) (by decide) (.inl e)))
  have H9 := Lib.hid (H8.out.call ho hd)
  have hs9 := ho.size
  clear hd ho
  have hgB9 : B ≠ g := by omega
  have HA9 := Lib.hid (show At7 w9 w9 B C g TS pv2 _ (.int .i64 0) (.int .i64 0) (.string (bs tx)) (.string ⟨#[]⟩) (.slice none 0 0) (.slice none 0 0) (.slice none 0 0) from ⟨by rw [HXX.out]; exact HB9.out, H9.out.dc, fun e => H9.out.far HB9.out (by decide) (by decide) (.inl e), hgB9, Only.refl _ _⟩)
  go_wp2_with fail
  with_reducible refine (right_d tx _ _ B C g TS pv2 _ HA9.out).mono ?_
  rintro e w10 ⟨v0, v1, v2, v3, v4, v5, v6, rfl, h7, hany, hml⟩
  have HB10 := Lib.hid h7.blk
  have HR10 := Lib.hid (HR9.out.only h7.only (by
    rintro (e | e)
    · exact H9.out.far HR9.out (by decide) (by decide) (.inl e)
    · omega))
  have H10 := Lib.hid (H9.out.near (B := B) (by omega) (fun e => H9.out.far HB9.out (by decide) (by decide) (.inr e)) h7.only h7.dc)
  have hs10 := h7.only.size
  have HML := Lib.hid hml
  clear h7 hml HA9
  obtain ⟨kd, md, rg, lc, x1, n1, k1, x2, n2, k2, x3, n3, k3, hany⟩ := hany
  obtain ⟨rfl, rfl, rfl, rfl, rfl, rfl, rfl⟩ := agg7_inj hany
  clear hany
  go_wp2_with fail
  with_reducible refine (want_d C g TS pv2 _ ⟨#[59]⟩ _ H10.out.dc (by decide)).mono ?_
  rintro e w11 ⟨rfl, hd, ho⟩
  have HR11 := Lib.hid (HR10.out.only ho (fun e => H10.out.far HR10.out (by decide) (by decide) (.inl e)))
  have HB11 := Lib.hid (HB10.out.only ho (fun e => H10.out.far HB10.out (by decide) (by decide) (.inl e)))
  have H11 := Lib.hid (H10.out.call ho hd)
  have hs11 := ho.size
  have HKP := Lib.hid ho
  clear hd ho
  obtain ⟨c0, c1, c2, c3, c4, c5, c6, f0, f1, f2, f3, f4, f5, f6⟩ := seven_free HB11.out
  obtain ⟨z0, z1, z2, z3, z4, z5, z6, o0, o1, o2, o3, o4, o5, o6⟩ := seven_free HR11.out
  go_wp2_with fail
  refine bodyPost_ret (results_cell_row (p := 2) rfl _ _ R 52 #[.int .i64 kd, .int .i64 md, .string rg, .string lc, .slice x1 n1 k1, .slice x2 n2 k2, .slice x3 n3 k3] (0, 0) _ rfl (put7 HR11.out) Tryz.underlying52 rfl (by kernel_rfl)) rfl ?_
  have hpb : ∀ b, pv2.ownBlock = some b → b < w2.heap.size := fun b hb => (H2.out.own.lt b hb).2
  refine stmt_done H11.out (by rw [HE.out, semi_left]; exact congrArg (fun x => onNeed [59] (left x)) HQ.out.symm) HR11.out (by omega) (by omega) (by rw [hpl]; omega) ⟨_, _, _, _, _, _, _, _, _, _, _, _, _, rfl⟩ fun s qs t hh => ?_
  rw [HE.out] at hh
  obtain ⟨⟨t1, hx⟩, rfl⟩ := P.semi_ok hh
  refine ⟨rfl, ?_⟩
  have h1 := HML.out s t1 (HQ.out.trans hx)
  exact LS.step (Q := From w9.heap.size) (fun b hb hl => ⟨⟨⟨by unfold From at hb; omega, fun e => by have := hpb b e; unfold From at hb; omega⟩, by unfold From at hb; omega⟩, HKP.out.block b hl (by unfold From at hb; omega)⟩) h1
theorem stmt_d (n : Nat) (C g base : Nat) (TS : List Tok) (pv : Value) (ps : List Nat) (ts : List Tok) (w : World) (h : Dc w C g TS pv (.ok ts)) (hp : OwnP w base pv ps) (hg : g < base) (hbase : base ≤ w.heap.size) (hn : ps.length + ts.length ≤ 50000) (hBl : ∀ st' pv ps w, Dc w C g TS pv st' → OwnP w base pv ps → base ≤ w.heap.size → ps.length + slen st' ≤ 50000 → slen st' < ts.length → Calls Tryz.prog 86 #[.pointer (some ⟨C, 0, none⟩)] w (PtD IsSs AnySl C g base TS pv ps (slen st') (on st' (P.blockF (P.stmtN n))) w)) :
    Calls Tryz.prog 107 #[.pointer (some ⟨C, 0, none⟩)] w (PtD LS AnyS C g base TS pv ps ts.length (P.stmtN (n + 1) ts) w) := by
  cases h1 : P.isS [105, 102] ts with
  | true => exact stmt_if_d n C g base TS pv ps ts w h hp hg hbase hn h1 hBl
  | false =>
    cases h2 : P.isS [115, 116, 111, 114, 101] ts with
    | true => exact stmt_store_d n C g base TS pv ps ts w h hp hg hbase hn h1 h2
    | false =>
      cases h3 : P.isS [102, 101, 110, 99, 101] ts with
      | true => exact stmt_fence_d n C g base TS pv ps ts w h hp hg hbase hn h1 h2 h3
      | false => exact stmt_set_d n C g base TS pv ps ts w h hp hg hbase hn h1 h2 h3
/-- stmt, with brackets enough. -/
theorem stmtN_d (C g base : Nat) (TS : List Tok) (hg : g < base) : ∀ (n : Nat) (ts : List Tok) (pv : Value) (ps : List Nat) (w : World), ts.length ≤ n → Dc w C g TS pv (.ok ts) → OwnP w base pv ps → base ≤ w.heap.size → ps.length + ts.length ≤ 50000 →
    Calls Tryz.prog 107 #[.pointer (some ⟨C, 0, none⟩)] w (PtD LS AnyS C g base TS pv ps ts.length (P.stmtN n ts) w)
  | 0, ts, pv, ps, w, hl, h, hp, hbase, hn => by
    have := h.live
    omega
  | n + 1, ts, pv, ps, w, hl, h, hp, hbase, hn => stmt_d n C g base TS pv ps ts w h hp hg hbase hn fun st' pv ps w h1 h2 h3 h4 h5 => block_d n C g base TS pv ps st' w h1 h2 hg h3 h4 fun ts' pv' ps' w' k1 k2 k3 k4 k5 k6 => stmtN_d C g base TS hg n ts' pv' ps' w' (by omega) k1 k3 k4 k5
theorem blockTot_d (C g base : Nat) (TS : List Tok) (pv : Value) (ps : List Nat) (st : Sta) (w : World) (h : Dc w C g TS pv st) (hp : OwnP w base pv ps) (hg : g < base) (hbase : base ≤ w.heap.size) (hn : ps.length + slen st ≤ 50000) :
    Calls Tryz.prog 86 #[.pointer (some ⟨C, 0, none⟩)] w (PtD IsSs AnySl C g base TS pv ps (slen st) (on st P.pBlock) w) := by
  have hb := block_d (slen st) C g base TS pv ps st w h hp hg hbase hn fun ts' pv' ps' w' k1 k2 k3 k4 k5 k6 => stmtN_d C g base TS hg _ ts' pv' ps' w' (by omega) k1 k3 k4 k5
  rcases st with q | ts
  · exact hb
  · exact hb
end Go.Proofs.YtgobcflfhabdhaaGreatDoor.Lx
