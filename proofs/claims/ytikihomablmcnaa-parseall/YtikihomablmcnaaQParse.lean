/-
  the document's Parse: a contract.
-/
import Derived.Test.YtikihomablmcnaaDR
import Derived.Test.YtikihomablmcnaaQProg
import Derived.Test.YtikihomablmcnaaLRefWalk
namespace Go.Proofs.Ytikihomablmcnaa.Lx
open Go.RowKit
open L (Tok)
open P (EX CO ST PG)
set_option maxRecDepth 100000
set_option linter.unusedVariables false
set_option linter.unusedSimpArgs false
theorem rlex_err (s : ByteArray) (w : World) (x : L.Bad) (p : Nat) (h : lexA s = .error (x, p)) : Calls Try.prog 16 #[.string s] w (LexBad x p w) := by
  refine (rlex_any s w).mono ?_
  rintro e w' ⟨v, rfl, ho, hb⟩
  rw [h] at ho ⊢
  obtain ⟨a, c, rfl⟩ := slice_of_own ho
  exact ⟨a, c, rfl, hb⟩
set_option maxHeartbeats 3200000 in
theorem rparse_bad (s : ByteArray) (w : World) (x : L.Bad) (p : Nat) (h : lexA s = .error (x, p)) : Calls Try.prog 10 #[.string s] w (ReadTo (.error (eno x, p)) w) := by
  have HL := Lib.hid (fun w => rlex_err s w x p h)
  have hne := eno_b x
  clear h
  go_enter Try.func10, Try.ntmps10
  go_wp2_with fail
  have hbA : Below w.heap.size w ((w.alloc (.cells #[.string ⟨#[]⟩, .int .i64 0, .slice none 0 0, .slice none 0 0, .int .i64 0, .int .i64 0, .int .i64 0, .string ⟨#[]⟩, .int .i64 0, .slice none 0 0] 29)).alloc (.cells #[.int .i64 0, .int .i64 0] 32)) := ((Below.refl _ _).alloc (Nat.le_refl _) _).alloc (by simp) _
  have HR0 := Lib.hid ((Blk.new w 29 #[.string ⟨#[]⟩, .int .i64 0, .slice none 0 0, .slice none 0 0, .int .i64 0, .int .i64 0, .int .i64 0, .string ⟨#[]⟩, .int .i64 0, .slice none 0 0]).alloc (.cells #[.int .i64 0, .int .i64 0] 32))
  have hB0 := Blk.new (w.alloc (.cells #[.string ⟨#[]⟩, .int .i64 0, .slice none 0 0, .slice none 0 0, .int .i64 0, .int .i64 0, .int .i64 0, .string ⟨#[]⟩, .int .i64 0, .slice none 0 0] 29)) 32 #[.int .i64 0, .int .i64 0]
  rw [show (w.alloc (.cells #[.string ⟨#[]⟩, .int .i64 0, .slice none 0 0, .slice none 0 0, .int .i64 0, .int .i64 0, .int .i64 0, .string ⟨#[]⟩, .int .i64 0, .slice none 0 0] 29)).heap.size = w.heap.size + 1 by simp] at hB0
  have HB0 := Lib.hid hB0
  clear hB0
  generalize (w.alloc (.cells #[.string ⟨#[]⟩, .int .i64 0, .slice none 0 0, .slice none 0 0, .int .i64 0, .int .i64 0, .int .i64 0, .string ⟨#[]⟩, .int .i64 0, .slice none 0 0] 29)).alloc (.cells #[.int .i64 0, .int .i64 0] 32) = w1 at *
  have hcall := HL.out w1
  with_reducible refine hcall.mono ?_
  rintro e w2 ⟨a, c, rfl, hb⟩
  clear hcall
  have HR2 := Lib.hid (HR0.out.live' hb)
  have HB2 := Lib.hid (HB0.out.live' hb)
  have HBL := Lib.hid (hbA.trans (hb.mono hbA.size))
  clear hb hbA HR0 HB0
  generalize hex : ((eno x : Nat) : Int) = ex at *
  have HEX := Lib.hid hex
  clear hex
  obtain ⟨⟨c0, c1, c2, c3, c4, c5, c6, c7, c8, c9⟩, f0, f1, f2, f3, f4, f5, f6, f7, f8, f9⟩ := ten_free HR2.out
  obtain ⟨d0, d1, e0, e1⟩ := two_free HB2.out
  have l1 := HR2.out.lt
  have l2 := HB2.out.lt
  go_wp2_with fail
  have l3 : ¬ w.heap.size = w2.heap.size := by omega
  have l4 : ¬ w.heap.size + 1 = w2.heap.size := by omega
  go_region
  all_goals
    go_wp2_with fail
    have hK1 := ((put10 (a' := .string ⟨#[]⟩) (b' := .int .i64 0) (c' := .slice none 0 0) (d' := .slice none 0 0) (e' := .int .i64 0) (f' := .int .i64 0) (h' := .int .i64 0) (i' := .string ⟨#[]⟩) (j' := .int .i64 0) (k' := .slice none 0 0) HR2.out).only (Only.put2 (Only.refl (fun b => b = w.heap.size + 1) _) (.inl rfl) (.int .i64 ex) (.int .i64 (p : Nat))) (by omega)).alloc (.cells #[.int .i64 ex, .int .i64 (p : Nat)] 32)
    have hK2 := (put2 (a' := .int .i64 ex) (b' := .int .i64 (p : Nat)) (HB2.out.only (Only.put10 (Only.refl (fun b => b = w.heap.size) _) (.inl rfl) (.string ⟨#[]⟩) (.int .i64 0) (.slice none 0 0) (.slice none 0 0) (.int .i64 0) (.int .i64 0) (.int .i64 0) (.string ⟨#[]⟩) (.int .i64 0) (.slice none 0 0)) (by omega))).alloc (.cells #[.int .i64 ex, .int .i64 (p : Nat)] 32)
    refine bodyPost_ret (results_three (p := 2) (q := 3) (r := 4) rfl _ _ _ _ _ _ _ _ _ (0, 0) (0, 0) _ _ rfl rfl rfl hK1 hK2 Try.underlying29 rfl (by kernel_rfl) Try.underlying32 rfl (by kernel_rfl)) rfl ?_
    refine ⟨_, _, by rw [← HEX.out]; rfl, lpg_zero, World.ownsRow_nil _ _ _ _, ?_⟩
    exact ((((Only.put2 (Only.put10 (Only.of_below (S := fun _ => False) HBL.out) (.inr (Nat.le_refl _)) (.string ⟨#[]⟩) (.int .i64 0) (.slice none 0 0) (.slice none 0 0) (.int .i64 0) (.int .i64 0) (.int .i64 0) (.string ⟨#[]⟩) (.int .i64 0) (.slice none 0 0)) (.inr (Nat.le_succ _)) (.int .i64 ex) (.int .i64 (p : Nat))).alloc (.cells #[.int .i64 ex, .int .i64 (p : Nat)] 32)).drew).below (Nat.le_refl _) (fun _ _ h => h))
theorem rlex_fit (s : ByteArray) (w : World) (ts : List Tok) (h : lexA s = .ok ts) (h0 : 0 < ts.length) : Calls Try.prog 16 #[.string s] w (LexOk ts w) := by
  refine (rlex_any s w).mono ?_
  rintro e w' ⟨v, rfl, ho, hb⟩
  rw [h] at ho ⊢
  have ho' : Own w' w.heap.size v ts := ho
  obtain ⟨g, cap, rfl, h1, h2, h3⟩ := own_row ho' h0
  refine ⟨g, cap, rfl, h1, h2, h3, ?_, hb⟩
  rcases ho'.2 with ⟨hx, _⟩ | ⟨g', cap', cur, hx, hg, hh, hn, _⟩
  · cases hx
  · cases hx
    exact hn
set_option maxHeartbeats 6400000 in
theorem rparse_fit (s : ByteArray) (w : World) (ts : List Tok) (h : lexA s = .ok ts) : Calls Try.prog 10 #[.string s] w (ReadTo (parA s) w) := by
  have hG := lexA_good h
  obtain ⟨hfin, hpos⟩ := hG.fin
  have HPA := Lib.hid (show parA s = (match P.pProg ts with | .error q => .error (2, q) | .ok x => .ok x) by unfold parA; rw [h] <;> rfl)
  have HL := Lib.hid (fun w => rlex_fit s w ts h hpos)
  have HG := Lib.hid hG
  have HFN := Lib.hid hfin
  have hlen := hG.len
  have HFT := Lib.hid (fits ts)
  clear h hG hfin
  go_enter Try.func10, Try.ntmps10
  go_wp2_with fail
  have hbA : Below w.heap.size w ((w.alloc (.cells #[.string ⟨#[]⟩, .int .i64 0, .slice none 0 0, .slice none 0 0, .int .i64 0, .int .i64 0, .int .i64 0, .string ⟨#[]⟩, .int .i64 0, .slice none 0 0] 29)).alloc (.cells #[.int .i64 0, .int .i64 0] 32)) := ((Below.refl _ _).alloc (Nat.le_refl _) _).alloc (by simp) _
  have HR0 := Lib.hid ((Blk.new w 29 #[.string ⟨#[]⟩, .int .i64 0, .slice none 0 0, .slice none 0 0, .int .i64 0, .int .i64 0, .int .i64 0, .string ⟨#[]⟩, .int .i64 0, .slice none 0 0]).alloc (.cells #[.int .i64 0, .int .i64 0] 32))
  have hB0 := Blk.new (w.alloc (.cells #[.string ⟨#[]⟩, .int .i64 0, .slice none 0 0, .slice none 0 0, .int .i64 0, .int .i64 0, .int .i64 0, .string ⟨#[]⟩, .int .i64 0, .slice none 0 0] 29)) 32 #[.int .i64 0, .int .i64 0]
  rw [show (w.alloc (.cells #[.string ⟨#[]⟩, .int .i64 0, .slice none 0 0, .slice none 0 0, .int .i64 0, .int .i64 0, .int .i64 0, .string ⟨#[]⟩, .int .i64 0, .slice none 0 0] 29)).heap.size = w.heap.size + 1 by simp] at hB0
  have HB0 := Lib.hid hB0
  clear hB0
  generalize (w.alloc (.cells #[.string ⟨#[]⟩, .int .i64 0, .slice none 0 0, .slice none 0 0, .int .i64 0, .int .i64 0, .int .i64 0, .string ⟨#[]⟩, .int .i64 0, .slice none 0 0] 29)).alloc (.cells #[.int .i64 0, .int .i64 0] 32) = w1 at *
  have hcall := HL.out w1
  with_reducible refine hcall.mono ?_
  rintro e w2 ⟨g, cap, rfl, hg1, hg2, hrow, hcap, hb⟩
  clear hcall
  have HR2 := Lib.hid (HR0.out.live' hb)
  have HB2 := Lib.hid (HB0.out.live' hb)
  have HBL := Lib.hid (hbA.trans (hb.mono hbA.size))
  have HRW := Lib.hid hrow
  have l1 := HR2.out.lt
  have l2 := HB2.out.lt
  have l3 : w.heap.size + 1 < w1.heap.size := HB0.out.lt
  clear hb hbA HR0 HB0 hrow
  go_wp2_with fail
  have hbA : Below w2.heap.size w2 ((w2.alloc (.cells #[.int .i64 0, .int .i64 0] 32)).alloc (.cells #[.slice (some ⟨g, 0, none⟩) ts.length cap, .int .i64 0, .int .i64 (-1), .slice none 0 0] 65)) := ((Below.refl _ _).alloc (Nat.le_refl _) _).alloc (by simp) _
  have hC0 := Blk.new (w2.alloc (.cells #[.int .i64 0, .int .i64 0] 32)) 65 #[.slice (some ⟨g, 0, none⟩) ts.length cap, .int .i64 0, .int .i64 (-1), .slice none 0 0]
  rw [show (w2.alloc (.cells #[.int .i64 0, .int .i64 0] 32)).heap.size = w2.heap.size + 1 by simp] at hC0
  have hlt := hC0.lt
  have HD := Lib.hid (show Cs ((w2.alloc (.cells #[.int .i64 0, .int .i64 0] 32)).alloc (.cells #[.slice (some ⟨g, 0, none⟩) ts.length cap, .int .i64 0, .int .i64 (-1), .slice none 0 0] 65)) (w2.heap.size + 1) g cap ts (.slice none 0 0) (.ok ts) from ⟨0, -1, ⟨hC0, fun i hi => (HRW.out i hi).only (Only.of_below (S := fun _ => False) hbA) id, by omega, hpos, by omega, HFN.out⟩, rfl, rfl⟩)
  have HR3 := Lib.hid ((HR2.out.alloc (.cells #[.int .i64 0, .int .i64 0] 32)).alloc (.cells #[.slice (some ⟨g, 0, none⟩) ts.length cap, .int .i64 0, .int .i64 (-1), .slice none 0 0] 65))
  have HB3 := Lib.hid ((HB2.out.alloc (.cells #[.int .i64 0, .int .i64 0] 32)).alloc (.cells #[.slice (some ⟨g, 0, none⟩) ts.length cap, .int .i64 0, .int .i64 (-1), .slice none 0 0] 65))
  have HBM := Lib.hid (HBL.out.trans (hbA.mono (by omega)))
  clear hbA hC0 HBL HR2 HB2 HRW
  generalize (w2.alloc (.cells #[.int .i64 0, .int .i64 0] 32)).alloc (.cells #[.slice (some ⟨g, 0, none⟩) ts.length cap, .int .i64 0, .int .i64 (-1), .slice none 0 0] 65) = w3 at *
  generalize hCe : w2.heap.size + 1 = C at *
  have hC1 : w2.heap.size < C := by omega
  clear hCe
  with_reducible refine (program_c C g cap w3.heap.size ts (.slice none 0 0) w3 HD.out (World.ownsRow_nil _ _ _ _) (by omega) (Nat.le_refl _)).mono ?_
  rintro e w4 ⟨v, pv4, ps4, rfl, ⟨nm, vl, a1, n1, k1, a2, n2, k2, ak, xo, xt, xs, xn, xa, xm, xc, rfl⟩, ⟨ac, nc, hcb⟩, hp, ho, hf, hst⟩
  have HR4 := Lib.hid (HR3.out.only ho (fun hx => hx.elim (fun e => by omega) (fun e => by cases e)))
  have HB4 := Lib.hid (HB3.out.only ho (fun hx => hx.elim (fun e => by omega) (fun e => by cases e)))
  have HON := Lib.hid (((Only.of_below (S := fun _ => False) HBM.out).then ho (fun j hx => hx.elim (fun e => .inr (by omega)) (fun e => by cases e))))
  have HST := Lib.hid hst
  have HOW := Lib.hid hp
  have hs4 := ho.size
  obtain ⟨ap, cp, rfl⟩ := slice_of_own hp
  clear hp ho hf hst HR3 HB3 HBM HD
  obtain ⟨⟨c0, c1, c2, c3, c4, c5, c6, c7, c8, c9⟩, f0, f1, f2, f3, f4, f5, f6, f7, f8, f9⟩ := ten_free HR4.out
  obtain ⟨d0, d1, e0, e1⟩ := two_free HB4.out
  have l5 := HR4.out.lt
  have l6 := HB4.out.lt
  have l7 := hcb.lt
  have y1 : ¬ w.heap.size = C := by omega
  have y2 : ¬ w.heap.size + 1 = C := by omega
  have y3 : ¬ w.heap.size = w4.heap.size := by omega
  have y4 : ¬ w.heap.size + 1 = w4.heap.size := by omega
  have y5 : ¬ C = w4.heap.size := by omega
  rcases HFT.out with ⟨q, hs, hpq⟩ | ⟨t, p, qs, hs, hpp, hss⟩
  · have HPB := Lib.hid hpq
    rw [hs] at hcb
    have hcb' : Blk w4 C 65 #[ac, nc, .int .i64 (q : Nat), .slice ap ps4.length cp] := hcb
    obtain ⟨g0, g1, g2, g3, _, _, _, _⟩ := four_free hcb'
    have hdq : decide ((0 : Int) ≤ ((q : Nat) : Int)) = true := by simp
    clear hcb hcb' hs hpq g0 g1 g3
    go_wp2_with fail
    go_region
    all_goals
      go_wp2_with fail
      have hK1 := ((put10 (a' := .string ⟨#[]⟩) (b' := .int .i64 0) (c' := .slice none 0 0) (d' := .slice none 0 0) (e' := .int .i64 0) (f' := .int .i64 0) (h' := .int .i64 0) (i' := .string ⟨#[]⟩) (j' := .int .i64 0) (k' := .slice none 0 0) HR4.out).only (Only.put2 (Only.refl (fun b => b = w.heap.size + 1) _) (.inl rfl) (.int .i64 2) (.int .i64 (q : Nat))) (by omega)).alloc (.cells #[.string nm, .int .i64 vl, .slice a1 n1 k1, .slice a2 n2 k2, .int .i64 ak, .int .i64 xo, .int .i64 xt, .string xs, .int .i64 xn, .slice xa xm xc] 29)
      have hK2 := (put2 (a' := .int .i64 2) (b' := .int .i64 (q : Nat)) (HB4.out.only (Only.put10 (Only.refl (fun b => b = w.heap.size) _) (.inl rfl) (.string ⟨#[]⟩) (.int .i64 0) (.slice none 0 0) (.slice none 0 0) (.int .i64 0) (.int .i64 0) (.int .i64 0) (.string ⟨#[]⟩) (.int .i64 0) (.slice none 0 0)) (by omega))).alloc (.cells #[.string nm, .int .i64 vl, .slice a1 n1 k1, .slice a2 n2 k2, .int .i64 ak, .int .i64 xo, .int .i64 xt, .string xs, .int .i64 xn, .slice xa xm xc] 29)
      refine bodyPost_ret (results_three (p := 2) (q := 3) (r := 4) rfl _ _ _ _ _ _ _ _ _ (0, 0) (0, 0) _ _ rfl rfl rfl hK1 hK2 Try.underlying29 rfl (by kernel_rfl) Try.underlying32 rfl (by kernel_rfl)) rfl ?_
      have hO : Only (fun b => b = w.heap.size ∨ b = w.heap.size + 1) w4 ((((put10w w4 w.heap.size (.string ⟨#[]⟩) (.int .i64 0) (.slice none 0 0) (.slice none 0 0) (.int .i64 0) (.int .i64 0) (.int .i64 0) (.string ⟨#[]⟩) (.int .i64 0) (.slice none 0 0)).setCell ⟨w.heap.size + 1, 0, none⟩ (.int .i64 2)).setCell ⟨w.heap.size + 1, 1, none⟩ (.int .i64 (q : Nat))).alloc (.cells #[.string nm, .int .i64 vl, .slice a1 n1 k1, .slice a2 n2 k2, .int .i64 ak, .int .i64 xo, .int .i64 xt, .string xs, .int .i64 xn, .slice xa xm xc] 29)).drew := ((Only.put2 (Only.put10 (Only.refl _ w4) (.inl (.inl rfl)) (.string ⟨#[]⟩) (.int .i64 0) (.slice none 0 0) (.slice none 0 0) (.int .i64 0) (.int .i64 0) (.int .i64 0) (.string ⟨#[]⟩) (.int .i64 0) (.slice none 0 0)) (.inl (.inr rfl)) (.int .i64 2) (.int .i64 (q : Nat))).alloc (.cells #[.string nm, .int .i64 vl, .slice a1 n1 k1, .slice a2 n2 k2, .int .i64 ak, .int .i64 xo, .int .i64 xt, .string xs, .int .i64 xn, .slice xa xm xc] 29)).drew
      have hBW : Below w.heap.size w ((((put10w w4 w.heap.size (.string ⟨#[]⟩) (.int .i64 0) (.slice none 0 0) (.slice none 0 0) (.int .i64 0) (.int .i64 0) (.int .i64 0) (.string ⟨#[]⟩) (.int .i64 0) (.slice none 0 0)).setCell ⟨w.heap.size + 1, 0, none⟩ (.int .i64 2)).setCell ⟨w.heap.size + 1, 1, none⟩ (.int .i64 (q : Nat))).alloc (.cells #[.string nm, .int .i64 vl, .slice a1 n1 k1, .slice a2 n2 k2, .int .i64 ak, .int .i64 xo, .int .i64 xt, .string xs, .int .i64 xn, .slice xa xm xc] 29)).drew := ((((Only.put2 (Only.put10 HON.out (.inr (Nat.le_refl _)) (.string ⟨#[]⟩) (.int .i64 0) (.slice none 0 0) (.slice none 0 0) (.int .i64 0) (.int .i64 0) (.int .i64 0) (.string ⟨#[]⟩) (.int .i64 0) (.slice none 0 0)) (.inr (Nat.le_succ _)) (.int .i64 2) (.int .i64 (q : Nat))).alloc (.cells #[.string nm, .int .i64 vl, .slice a1 n1 k1, .slice a2 n2 k2, .int .i64 ak, .int .i64 xo, .int .i64 xt, .string xs, .int .i64 xn, .slice xa xm xc] 29)).drew).below (Nat.le_refl _) (fun _ _ h => h))
      rw [HPA.out, HPB.out]
      exact ⟨_, _, rfl, lpg_zero, World.ownsRow_nil _ _ _ _, hBW⟩
  · have HPB := Lib.hid hpp
    have HSS := Lib.hid (HST.out p qs hss)
    rw [hs] at hcb
    have hcb' : Blk w4 C 65 #[ac, nc, .int .i64 (-1), .slice ap ps4.length cp] := hcb
    obtain ⟨g0, g1, g2, g3, _, _, _, _⟩ := four_free hcb'
    clear hcb hcb' hs hpp hss g0 g1
    go_wp2_with fail
    go_region
    all_goals
      go_wp2_with fail
      have hK1 := ((put10 (a' := .string nm) (b' := .int .i64 vl) (c' := .slice a1 n1 k1) (d' := .slice a2 n2 k2) (e' := .int .i64 ak) (f' := .int .i64 xo) (h' := .int .i64 xt) (i' := .string xs) (j' := .int .i64 xn) (k' := .slice xa xm xc) HR4.out).only (Only.put2 (Only.refl (fun b => b = w.heap.size + 1) _) (.inl rfl) (.int .i64 0) (.int .i64 0)) (by omega)).alloc (.cells #[.string nm, .int .i64 vl, .slice a1 n1 k1, .slice a2 n2 k2, .int .i64 ak, .int .i64 xo, .int .i64 xt, .string xs, .int .i64 xn, .slice xa xm xc] 29)
      have hK2 := (put2 (a' := .int .i64 0) (b' := .int .i64 0) (HB4.out.only (Only.put10 (Only.refl (fun b => b = w.heap.size) _) (.inl rfl) (.string nm) (.int .i64 vl) (.slice a1 n1 k1) (.slice a2 n2 k2) (.int .i64 ak) (.int .i64 xo) (.int .i64 xt) (.string xs) (.int .i64 xn) (.slice xa xm xc)) (by omega))).alloc (.cells #[.string nm, .int .i64 vl, .slice a1 n1 k1, .slice a2 n2 k2, .int .i64 ak, .int .i64 xo, .int .i64 xt, .string xs, .int .i64 xn, .slice xa xm xc] 29)
      refine bodyPost_ret (results_three (p := 2) (q := 3) (r := 4) rfl _ _ _ _ _ _ _ _ _ (0, 0) (0, 0) _ _ rfl rfl rfl hK1 hK2 Try.underlying29 rfl (by kernel_rfl) Try.underlying32 rfl (by kernel_rfl)) rfl ?_
      have hO : Only (fun b => b = w.heap.size ∨ b = w.heap.size + 1) w4 ((((put10w w4 w.heap.size (.string nm) (.int .i64 vl) (.slice a1 n1 k1) (.slice a2 n2 k2) (.int .i64 ak) (.int .i64 xo) (.int .i64 xt) (.string xs) (.int .i64 xn) (.slice xa xm xc)).setCell ⟨w.heap.size + 1, 0, none⟩ (.int .i64 0)).setCell ⟨w.heap.size + 1, 1, none⟩ (.int .i64 0)).alloc (.cells #[.string nm, .int .i64 vl, .slice a1 n1 k1, .slice a2 n2 k2, .int .i64 ak, .int .i64 xo, .int .i64 xt, .string xs, .int .i64 xn, .slice xa xm xc] 29)).drew := ((Only.put2 (Only.put10 (Only.refl _ w4) (.inl (.inl rfl)) (.string nm) (.int .i64 vl) (.slice a1 n1 k1) (.slice a2 n2 k2) (.int .i64 ak) (.int .i64 xo) (.int .i64 xt) (.string xs) (.int .i64 xn) (.slice xa xm xc)) (.inl (.inr rfl)) (.int .i64 0) (.int .i64 0)).alloc (.cells #[.string nm, .int .i64 vl, .slice a1 n1 k1, .slice a2 n2 k2, .int .i64 ak, .int .i64 xo, .int .i64 xt, .string xs, .int .i64 xn, .slice xa xm xc] 29)).drew
      have hBW : Below w.heap.size w ((((put10w w4 w.heap.size (.string nm) (.int .i64 vl) (.slice a1 n1 k1) (.slice a2 n2 k2) (.int .i64 ak) (.int .i64 xo) (.int .i64 xt) (.string xs) (.int .i64 xn) (.slice xa xm xc)).setCell ⟨w.heap.size + 1, 0, none⟩ (.int .i64 0)).setCell ⟨w.heap.size + 1, 1, none⟩ (.int .i64 0)).alloc (.cells #[.string nm, .int .i64 vl, .slice a1 n1 k1, .slice a2 n2 k2, .int .i64 ak, .int .i64 xo, .int .i64 xt, .string xs, .int .i64 xn, .slice xa xm xc] 29)).drew := ((((Only.put2 (Only.put10 HON.out (.inr (Nat.le_refl _)) (.string nm) (.int .i64 vl) (.slice a1 n1 k1) (.slice a2 n2 k2) (.int .i64 ak) (.int .i64 xo) (.int .i64 xt) (.string xs) (.int .i64 xn) (.slice xa xm xc)) (.inr (Nat.le_succ _)) (.int .i64 0) (.int .i64 0)).alloc (.cells #[.string nm, .int .i64 vl, .slice a1 n1 k1, .slice a2 n2 k2, .int .i64 ak, .int .i64 xo, .int .i64 xt, .string xs, .int .i64 xn, .slice xa xm xc] 29)).drew).below (Nat.le_refl _) (fun _ _ h => h))
      rw [HPA.out, HPB.out]
      obtain ⟨hps, hlp⟩ := HSS.out
      refine ⟨_, _, rfl, LPg.step (fun b hb hl => ⟨by have := hb.1; unfold From; omega, hO.block b hl (by have := hb.1; omega)⟩) hlp, ?_, hBW⟩
      show OwnP _ w.heap.size _ qs
      rw [← hps]
      exact own_only (own_mono HOW.out (by omega)) hO (fun k hk => by have := (HOW.out.lt k hk).1; omega)
theorem rparse_any (s : ByteArray) (w : World) : Calls Try.prog 10 #[.string s] w (ReadTo (parA s) w) := by
  cases h : lexA s with
  | error x =>
    obtain ⟨x, p⟩ := x
    have := rparse_bad s w x p h
    unfold parA
    rw [h]
    exact this
  | ok ts => exact rparse_fit s w ts h
end Go.Proofs.Ytikihomablmcnaa.Lx
