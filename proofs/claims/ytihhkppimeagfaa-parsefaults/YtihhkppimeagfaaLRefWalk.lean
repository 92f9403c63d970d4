/-
  What Lex of the document's answer tells, as a contract: the walk.
-/
import Derived.Test.YtihhkppimeagfaaLC
namespace Go.Proofs.Ytihhkppimeagfaa.Lx
open Go.RowKit
set_option linter.unusedVariables false
set_option linter.unusedSimpArgs false
theorem ne10 (b : UInt8) : (((b.toNat : Nat) : Int) != 10) = L.not10 b := by
  rw [not10_int, bne, Bool.eq_iff_iff]
  simp
theorem number_ok (t : ByteArray) (w : World) (hs : t.size ≤ maxLen) (hd : ∀ c ∈ by' t, L.digB c = true) (h : L.val (by' t) ≤ L.top) :
    Calls Try.prog 23 #[.string t] w fun e w' => e = .returned (.tuple #[.int .i64 (L.val (by' t) : Nat), .bool true]) ∧ w = w' := by
  refine (number_any t w hs hd).mono ?_
  rintro e w' ⟨⟨_, rfl⟩ | ⟨hn, _⟩, rfl⟩
  · exact ⟨rfl, rfl⟩
  · exact absurd h hn
theorem number_no (t : ByteArray) (w : World) (hs : t.size ≤ maxLen) (hd : ∀ c ∈ by' t, L.digB c = true) (h : ¬ L.val (by' t) ≤ L.top) :
    Calls Try.prog 23 #[.string t] w fun e w' => e = .returned (.tuple #[.int .i64 0, .bool false]) ∧ w = w' := by
  refine (number_any t w hs hd).mono ?_
  rintro e w' ⟨⟨hn, _⟩ | ⟨_, rfl⟩, rfl⟩
  · exact absurd hn h
  · exact ⟨rfl, rfl⟩
theorem sgn_slash {b : UInt8} {r : List UInt8} (h : (b == 47) = true) : sgn b r = 0 := by
  have : b = 47 := by simpa using h
  subst this
  rfl
theorem nx_sgn_pos {s : ByteArray} {m : Nat} (hm : m < s.size) (h1 : L.blankB s[m] = false) (h2 : [47, 47].isPrefixOf (rest s m) = false) (h3 : L.letB s[m] = false) (h4 : L.digB s[m] = false) (hn : 0 < sgn s[m] (rest s (m + 1))) : L.nx s[m] (rest s (m + 1)) = .tok 3 (sgn s[m] (rest s (m + 1))) 0 := by
  obtain ⟨j, hj⟩ : ∃ j, sgn s[m] (rest s (m + 1)) = j + 1 := ⟨sgn s[m] (rest s (m + 1)) - 1, by omega⟩
  rw [hj]
  exact nx_sgn_at hm h1 h2 h3 h4 hj
theorem own_far {w : World} {base g : Nat} {t : TypeId} {size n : Nat} {v : Value} {xs : List Value} (h : w.ownsRow base t size v n xs) (hg : v.ownBlock ≠ some g) (u0 u1 : Value) : ((w.setCell ⟨g, 0, none⟩ u0).setCell ⟨g, 1, none⟩ u1).ownsRow base t size v n xs :=
  ownsRow_setCell_other (a := ⟨g, 1, none⟩) (ownsRow_setCell_other (a := ⟨g, 0, none⟩) h hg _) hg _
theorem four_cells {w : World} {g : Nat} {t : TypeId} {a b c d : Value} (h : Blk w g t #[a, b, c, d]) : w.cell? ⟨g, 0, none⟩ = some a ∧ w.cell? ⟨g, 1, none⟩ = some b ∧ w.cell? ⟨g, 2, none⟩ = some c ∧ w.cell? ⟨g, 3, none⟩ = some d ∧ w.frozen? ⟨g, 0, none⟩ = false ∧ w.frozen? ⟨g, 1, none⟩ = false ∧ w.frozen? ⟨g, 2, none⟩ = false ∧ w.frozen? ⟨g, 3, none⟩ = false := ⟨h.cell 0, h.cell 1, h.cell 2, h.cell 3, h.free 0, h.free 1, h.free 2, h.free 3⟩
set_option maxRecDepth 100000 in
set_option maxHeartbeats 8000000 in
theorem rlex_short (s : ByteArray) (w : World) (hs : s.size ≤ 4096) : Calls Try.prog 10 #[.string s] w (LexTo (L.lexL 0 (by' s)) w) := by
  obtain ⟨i0, hi, hz0, hz1, hz2⟩ := info_parts Try.infoTok
  have HI := Lib.hid hi
  have HZ0 := Lib.hid hz0
  have HZ1 := Lib.hid hz1
  have HZ2 := Lib.hid hz2
  clear hi hz0 hz1 hz2
  have HS := Lib.hid (show s.size ≤ maxLen by unfold maxLen; omega)
  have hb0 : decide ((4096 : Int) < (s.size : Int)) = false := by simp; omega
  go_enter Try.func10, Try.ntmps10
  go_wp2_with fail
  go_loopw [4, 5] (fun v t wr => RLexR s w v t wr) (fun _ t _ => s.size - (intOf t).toNat)
  case atStart =>
    refine ⟨0, [], rfl, by omega, ?_, by simp, World.ownsRow_nil _ _ _ _, Blk.new _ _ _, (Below.refl _ _).alloc (Nat.le_refl _) _⟩
    rw [L.pre_nil]
    rfl
  case round =>
    obtain ⟨m, ts, rfl, hm, he, hl, hown, hB, hbel⟩ := hrel
    have HE := Lib.hid he
    clear he
    have hsz := hbel.size
    by_cases hlt : m < s.size
    · have HA := Lib.hid (At.mk hlt HE.out hl hown hB hbel)
      have HBL := Lib.hid hB
      cases hbk : L.blankB s[m]
      · have HBK := Lib.hid hbk
        clear hbk
        cases hrm : [47, 47].isPrefixOf (rest s m)
        · cases hlet : L.letB s[m]
          · cases hdig : L.digB s[m]
            · have HN0 := Lib.hid (fun hn => nx_sgn_pos hlt HBK.out hrm hlet hdig hn)
              have HN1 := Lib.hid (fun hn => nx_form_at hlt HBK.out hrm hlet hdig hn)
              have hin := sgn_in hlt
              have hno := remark_no hlt hrm
              have HLE := Lib.hid hlet
              have HDI := Lib.hid hdig
              clear hrm hlet hdig
              have HSL := Lib.hid (fun (h : (s[m] == 47) = true) => sgn_slash (b := s[m]) (r := rest s (m + 1)) h)
              have HRS := Lib.hid (fun w => rsign_any s m w HS.out hlt)
              have hlt2 := hB.lt
              rcases hno with ha | ⟨ha, h1⟩ | ⟨ha, h1, h2⟩
              · have b1 : (((s[m].toNat : Nat) : Int) == 47) = false := byte_is ha
                clear ha HSL
                by_cases hn0 : 0 < sgn s[m] (rest s (m + 1))
                · have HX := Lib.hid (HN0.out hn0)
                  generalize sgn s[m] (rest s (m + 1)) = n at *
                  go_wp2_with fail
                  with_reducible refine (rblank_any.call _ _).mono ?_
                  rintro e w' ⟨rfl, rfl⟩
                  rw [HBK.out]
                  go_wp2_with fail
                  with_reducible refine (rletter_any.call _ _).mono ?_
                  rintro e w' ⟨rfl, rfl⟩
                  rw [HLE.out]
                  go_wp2_with fail
                  with_reducible refine (rdigit_any.call _ _).mono ?_
                  rintro e w' ⟨rfl, rfl⟩
                  rw [HDI.out]
                  go_wp2_with fail
                  with_reducible refine (HRS.out _).mono ?_
                  rintro e w1 ⟨rfl, nd, hw1⟩
                  have hC : Blk w1 wr.heap.size 45 #[.int .i64 0, .string ⟨#[]⟩, .int .i64 0, .int .i64 m] := by
                    rw [hw1]
                    exact Blk.new wr _ _
                  have hF : Blk w1 w.heap.size 38 #[.int .i64 0, .int .i64 0] := by
                    rw [hw1]
                    exact Blk.alloc HBL.out _
                  have hb1 : Below wr.heap.size wr w1 := by
                    rw [hw1]
                    exact below_drewN ((Below.refl _ _).alloc (Nat.le_refl _) _) _
                  have hsz1 := hb1.size
                  have hlt1 := hC.lt
                  have hown1 := own_below hown hb1
                  clear hw1
                  obtain ⟨c0, c1, c2, c3, f0, f1, f2, f3⟩ := four_cells hC
                  obtain ⟨d0, d1, g0, g1⟩ := two_cells hF
                  have HF := Lib.hid hF
                  clear hC hF
                  have e1 : (((m : Int) + (n : Int)) == (m : Int)) = false := by simp; omega
                  have HO := Lib.hid (fun u0 u1 => own_far (g := wr.heap.size) hown1 (fun e => by have := (hown.lt _ e).2; omega) u0 u1)
                  have HM := Lib.hid (fun w1 w2 val' => HA.out.more (w1 := w1) (w2 := w2) (val' := val') hlt rfl HX.out)
                  go_wp2_with (at_builtin; refine wpList_append_own _ rfl (.tmp 127) (.tmp 129) 35 rfl w.heap.size 45 i0 (.agg #[.int .i64 0, .string ⟨#[]⟩, .int .i64 0, .int .i64 0]) 4 40 Try.underlying35 HI.out HZ0.out HZ1.out HZ2.out rfl (by decide) _ _ _ rfl ((HO.out _ _).alloc _) ⟨w1.heap.size, 0, none⟩ 1 1 [.int .i64 3, .string (s.extract m (m + n)), .int .i64 0, .int .i64 m] rfl rfl (new4' _ _ (by simp) _ _ _ _ _) (one4 _ _ _ _) (by unfold maxLen; omega) (by omega) (by simp; omega) ?_; intro v' w2 hown2 hgrow2 _)
                  go_roundw
                  case rel => exact HM.out _ _ _ ((hb1.setCell (p := ⟨wr.heap.size, 0, none⟩) (Nat.le_refl _) _).setCell (p := ⟨wr.heap.size, 1, none⟩) (Nat.le_refl _) _) _ rfl rfl hown2 hgrow2
                  case measure => simp [intOf]; omega
                · have h0 : sgn s[m] (rest s (m + 1)) = 0 := by omega
                  have HNX := Lib.hid (HN1.out h0)
                  rw [h0] at HRS
                  have HR0 := Lib.hid (show ∀ w, Calls Try.prog 24 #[.string s, .int .i64 (m : Nat)] w (NumTo 0 w) from HRS.out)
                  clear h0 HRS HN0 HN1 hin
                  have hBl := hB.lt
                  go_wp2_with fail
                  with_reducible refine (rblank_any.call _ _).mono ?_
                  rintro e w' ⟨rfl, rfl⟩
                  rw [HBK.out]
                  go_wp2_with fail
                  with_reducible refine (rletter_any.call _ _).mono ?_
                  rintro e w' ⟨rfl, rfl⟩
                  rw [HLE.out]
                  go_wp2_with fail
                  with_reducible refine (rdigit_any.call _ _).mono ?_
                  rintro e w' ⟨rfl, rfl⟩
                  rw [HDI.out]
                  go_wp2_with fail
                  with_reducible refine (HR0.out _).mono ?_
                  rintro e w1 ⟨rfl, nd, hw1⟩
                  have hC : Blk w1 wr.heap.size 45 #[.int .i64 0, .string ⟨#[]⟩, .int .i64 0, .int .i64 m] := by
                    rw [hw1]
                    exact Blk.new wr _ _
                  have hF : Blk w1 w.heap.size 38 #[.int .i64 0, .int .i64 0] := by
                    rw [hw1]
                    exact Blk.alloc HBL.out _
                  have hb1 : Below wr.heap.size wr w1 := by
                    rw [hw1]
                    exact below_drewN ((Below.refl _ _).alloc (Nat.le_refl _) _) _
                  have hsz1 := hb1.size
                  have hlt1 := hC.lt
                  have hown1 := own_below hown hb1
                  clear hw1
                  obtain ⟨c0, c1, c2, c3, f0, f1, f2, f3⟩ := four_cells hC
                  obtain ⟨d0, d1, g0, g1⟩ := two_cells hF
                  have HF := Lib.hid hF
                  clear hC hF
                  have HM := Lib.hid (fun w2 => HA.out.bad (w1 := w1) (w2 := w2) hlt HNX.out hb1)
                  go_wp2_with fail
                  exact bodyPost_ret (results_two (q := 2) (p := 3) rfl _ _ (.slice none 0 0) w.heap.size 38 #[.int .i64 2, .int .i64 (m : Nat)] (0, 0) _ rfl rfl (fault_blk (HF.out.far (p := ⟨wr.heap.size, 0, none⟩) (Nat.ne_of_lt hBl) _)) Try.underlying38 rfl (by kernel_rfl)) rfl (HM.out _ ((((Below.refl _ _).setCell (p := ⟨wr.heap.size, 0, none⟩) hsz _).setCell (p := ⟨w.heap.size, 0, none⟩) (Nat.le_refl _) _).setCell (p := ⟨w.heap.size, 1, none⟩) (Nat.le_refl _) _) rfl)
              · have b1 : (((s[m].toNat : Nat) : Int) == 47) = true := byte_is ha
                have b3 : decide ((1 : Int) < (s.size : Int) - (m : Int)) = false := by simp; omega
                have h0 := HSL.out ha
                clear ha HSL
                have HNX := Lib.hid (HN1.out h0)
                rw [h0] at HRS
                have HR0 := Lib.hid (show ∀ w, Calls Try.prog 24 #[.string s, .int .i64 (m : Nat)] w (NumTo 0 w) from HRS.out)
                clear h0 HRS HN0 HN1 hin
                have hBl := hB.lt
                go_wp2_with fail
                with_reducible refine (rblank_any.call _ _).mono ?_
                rintro e w' ⟨rfl, rfl⟩
                rw [HBK.out]
                go_wp2_with fail
                with_reducible refine (rletter_any.call _ _).mono ?_
                rintro e w' ⟨rfl, rfl⟩
                rw [HLE.out]
                go_wp2_with fail
                with_reducible refine (rdigit_any.call _ _).mono ?_
                rintro e w' ⟨rfl, rfl⟩
                rw [HDI.out]
                go_wp2_with fail
                with_reducible refine (HR0.out _).mono ?_
                rintro e w1 ⟨rfl, nd, hw1⟩
                have hC : Blk w1 wr.heap.size 45 #[.int .i64 0, .string ⟨#[]⟩, .int .i64 0, .int .i64 m] := by
                  rw [hw1]
                  exact Blk.new wr _ _
                have hF : Blk w1 w.heap.size 38 #[.int .i64 0, .int .i64 0] := by
                  rw [hw1]
                  exact Blk.alloc HBL.out _
                have hb1 : Below wr.heap.size wr w1 := by
                  rw [hw1]
                  exact below_drewN ((Below.refl _ _).alloc (Nat.le_refl _) _) _
                have hsz1 := hb1.size
                have hlt1 := hC.lt
                have hown1 := own_below hown hb1
                clear hw1
                obtain ⟨c0, c1, c2, c3, f0, f1, f2, f3⟩ := four_cells hC
                obtain ⟨d0, d1, g0, g1⟩ := two_cells hF
                have HF := Lib.hid hF
                clear hC hF
                have HM := Lib.hid (fun w2 => HA.out.bad (w1 := w1) (w2 := w2) hlt HNX.out hb1)
                go_wp2_with fail
                exact bodyPost_ret (results_two (q := 2) (p := 3) rfl _ _ (.slice none 0 0) w.heap.size 38 #[.int .i64 2, .int .i64 (m : Nat)] (0, 0) _ rfl rfl (fault_blk (HF.out.far (p := ⟨wr.heap.size, 0, none⟩) (Nat.ne_of_lt hBl) _)) Try.underlying38 rfl (by kernel_rfl)) rfl (HM.out _ ((((Below.refl _ _).setCell (p := ⟨wr.heap.size, 0, none⟩) hsz _).setCell (p := ⟨w.heap.size, 0, none⟩) (Nat.le_refl _) _).setCell (p := ⟨w.heap.size, 1, none⟩) (Nat.le_refl _) _) rfl)
              · have b1 : (((s[m].toNat : Nat) : Int) == 47) = true := byte_is ha
                have b2 : (((s[m + 1].toNat : Nat) : Int) == 47) = false := byte_is h2
                have b3 : decide ((1 : Int) < (s.size : Int) - (m : Int)) = true := by simp; omega
                have h0 := HSL.out ha
                clear ha HSL h2
                have HNX := Lib.hid (HN1.out h0)
                rw [h0] at HRS
                have HR0 := Lib.hid (show ∀ w, Calls Try.prog 24 #[.string s, .int .i64 (m : Nat)] w (NumTo 0 w) from HRS.out)
                clear h0 HRS HN0 HN1 hin
                have hBl := hB.lt
                go_wp2_with fail
                with_reducible refine (rblank_any.call _ _).mono ?_
                rintro e w' ⟨rfl, rfl⟩
                rw [HBK.out]
                go_wp2_with fail
                with_reducible refine (rletter_any.call _ _).mono ?_
                rintro e w' ⟨rfl, rfl⟩
                rw [HLE.out]
                go_wp2_with fail
                with_reducible refine (rdigit_any.call _ _).mono ?_
                rintro e w' ⟨rfl, rfl⟩
                rw [HDI.out]
                go_wp2_with fail
                with_reducible refine (HR0.out _).mono ?_
                rintro e w1 ⟨rfl, nd, hw1⟩
                have hC : Blk w1 wr.heap.size 45 #[.int .i64 0, .string ⟨#[]⟩, .int .i64 0, .int .i64 m] := by
                  rw [hw1]
                  exact Blk.new wr _ _
                have hF : Blk w1 w.heap.size 38 #[.int .i64 0, .int .i64 0] := by
                  rw [hw1]
                  exact Blk.alloc HBL.out _
                have hb1 : Below wr.heap.size wr w1 := by
                  rw [hw1]
                  exact below_drewN ((Below.refl _ _).alloc (Nat.le_refl _) _) _
                have hsz1 := hb1.size
                have hlt1 := hC.lt
                have hown1 := own_below hown hb1
                clear hw1
                obtain ⟨c0, c1, c2, c3, f0, f1, f2, f3⟩ := four_cells hC
                obtain ⟨d0, d1, g0, g1⟩ := two_cells hF
                have HF := Lib.hid hF
                clear hC hF
                have HM := Lib.hid (fun w2 => HA.out.bad (w1 := w1) (w2 := w2) hlt HNX.out hb1)
                go_wp2_with fail
                exact bodyPost_ret (results_two (q := 2) (p := 3) rfl _ _ (.slice none 0 0) w.heap.size 38 #[.int .i64 2, .int .i64 (m : Nat)] (0, 0) _ rfl rfl (fault_blk (HF.out.far (p := ⟨wr.heap.size, 0, none⟩) (Nat.ne_of_lt hBl) _)) Try.underlying38 rfl (by kernel_rfl)) rfl (HM.out _ ((((Below.refl _ _).setCell (p := ⟨wr.heap.size, 0, none⟩) hsz _).setCell (p := ⟨w.heap.size, 0, none⟩) (Nat.le_refl _) _).setCell (p := ⟨w.heap.size, 1, none⟩) (Nat.le_refl _) _) rfl)
            · have b1 : (((s[m].toNat : Nat) : Int) == 47) = false := byte_is (L.dig_not hdig).2.1
              have HX1 := Lib.hid (fun hv => nx_num_at hlt hdig hv)
              have HX2 := Lib.hid (fun hv => nx_long_at hlt hdig hv)
              have HLE := Lib.hid hlet
              have HDI := Lib.hid hdig
              have hT := run_in L.digB s m hm
              have hT0 : 0 < L.run L.digB (rest s m) := by rw [run_bat (by rw [bat_lt hlt]; exact hdig)]; omega
              have H0 := Lib.hid (show PastR s L.digB (m + L.run L.digB (rest s m)) (.int .i64 m) from ⟨m, rfl, hm, rfl⟩)
              have HDG := Lib.hid (show ∀ c ∈ by' (s.extract m (m + L.run L.digB (rest s m))), L.digB c = true by rw [ext_take]; exact dig_take _)
              have HSZ := Lib.hid (show (s.extract m (m + L.run L.digB (rest s m))).size ≤ maxLen by rw [ext_size s m _ hT]; have := HS.out; omega)
              clear hrm hlet hdig
              generalize hTT : m + L.run L.digB (rest s m) = T at *
              have HTT := Lib.hid hTT
              have hmT : m < T := by omega
              clear hTT hT0
              have HV : Hid (_ ∨ _) := Lib.hid (show (∃ v : Nat, (∀ w, Calls Try.prog 23 #[.string (s.extract m T)] w fun e w' => e = .returned (.tuple #[.int .i64 (v : Nat), .bool true]) ∧ w = w') ∧ L.nx s[m] (rest s (m + 1)) = .tok 2 (L.run L.digB (rest s m)) v) ∨ ((∀ w, Calls Try.prog 23 #[.string (s.extract m T)] w fun e w' => e = .returned (.tuple #[.int .i64 0, .bool false]) ∧ w = w') ∧ L.nx s[m] (rest s (m + 1)) = .bad .long) by
                by_cases hv : L.val (by' (s.extract m T)) ≤ L.top
                · exact .inl ⟨_, fun w => number_ok _ w HSZ.out HDG.out hv, HX1.out hv⟩
                · exact .inr ⟨fun w => number_no _ w HSZ.out HDG.out hv, HX2.out hv⟩)
              go_wp2_with fail
              with_reducible refine (rblank_any.call _ _).mono ?_
              rintro e w' ⟨rfl, rfl⟩
              rw [HBK.out]
              go_wp2_with fail
              with_reducible refine (rletter_any.call _ _).mono ?_
              rintro e w' ⟨rfl, rfl⟩
              rw [HLE.out]
              go_wp2_with fail
              with_reducible refine (rdigit_any.call _ _).mono ?_
              rintro e w' ⟨rfl, rfl⟩
              rw [HDI.out]
              go_wp2_with fail
              go_loop [6] (fun t => PastR s L.digB T t) (fun t => s.size - (intOf t).toNat)
              case atStart => exact H0.out
              case round =>
                obtain ⟨k, rfl, hk, hkT⟩ := hrel
                by_cases hkl : k < s.size
                · cases h2 : L.digB s[k]
                  · have hb : bat L.digB s k = false := by rw [bat_lt hkl]; exact h2
                    obtain rfl : T = k := by have := run_nat hb; omega
                    have H2 := Lib.hid h2
                    clear hkT hb h2
                    go_wp2_with fail
                    with_reducible refine (rdigit_any.call _ _).mono ?_
                    rintro e w' ⟨rfl, rfl⟩
                    rw [H2.out]
                    rcases HV.out with ⟨v, HW, hNX⟩ | ⟨HW, hNX⟩
                    · have HM := Lib.hid (fun w1 w2 val' => HA.out.more (w1 := w1) (w2 := w2) (val' := val') hlt HTT.out hNX)
                      have HW' := Lib.hid HW
                      clear HW hNX
                      go_wp2_with fail
                      with_reducible refine (HW'.out _).mono ?_
                      rintro e w' ⟨rfl, rfl⟩
                      go_wp2_with (at_builtin; refine wpList_append_own _ rfl (.tmp 127) (.tmp 129) 35 rfl w.heap.size 45 i0 (.agg #[.int .i64 0, .string ⟨#[]⟩, .int .i64 0, .int .i64 0]) 4 40 Try.underlying35 HI.out HZ0.out HZ1.out HZ2.out rfl (by decide) _ _ _ rfl ((hown.alloc _).alloc _) ⟨wr.heap.size + 1, 0, none⟩ 1 1 [.int .i64 2, .string (s.extract m T), .int .i64 v, .int .i64 m] rfl rfl (new4' _ _ (by simp) _ _ _ _ _) (one4 _ _ _ _) (by unfold maxLen; omega) (by omega) (by simp; omega) ?_; intro v' w2 hown2 hgrow2 _)
                      go_roundw
                      case rel => exact HM.out _ _ _ ((Below.refl _ _).alloc (Nat.le_refl _) _) _ rfl rfl hown2 hgrow2
                      case measure => simp [intOf]; omega
                    · have HM := Lib.hid (fun w1 w2 => HA.out.bad (w1 := w1) (w2 := w2) hlt hNX)
                      have HW' := Lib.hid HW
                      clear HW hNX
                      obtain ⟨c0, c1, f0, f1⟩ := two_cells HBL.out
                      have hBl := hB.lt
                      go_wp2_with fail
                      with_reducible refine (HW'.out _).mono ?_
                      rintro e w' ⟨rfl, rfl⟩
                      go_wp2_with fail
                      exact bodyPost_ret (results_two (q := 2) (p := 3) rfl _ _ (.slice none 0 0) w.heap.size 38 #[.int .i64 3, .int .i64 (m : Nat)] (0, 0) _ rfl rfl (Blk.alloc (fault_blk HBL.out) _) Try.underlying38 rfl (by kernel_rfl)) rfl (HM.out wr _ (Below.refl _ _) ((((Below.refl _ _).setCell (p := ⟨w.heap.size, 0, none⟩) (Nat.le_refl _) _).setCell (p := ⟨w.heap.size, 1, none⟩) (Nat.le_refl _) _).alloc (by simp; omega) _) rfl)
                  · have hb : bat L.digB s k = true := by rw [bat_lt hkl]; exact h2
                    have HR := Lib.hid (run_bat hb)
                    have HKT := Lib.hid hkT
                    have H2 := Lib.hid h2
                    clear hkT hb h2
                    go_wp2_with fail
                    with_reducible refine (rdigit_any.call _ _).mono ?_
                    rintro e w' ⟨rfl, rfl⟩
                    rw [H2.out]
                    go_wp2_with fail
                    go_round
                    case rel => exact ⟨k + 1, by go_num, by omega, by have := HKT.out; rw [HR.out] at this; omega⟩
                    case measure => simp [intOf]; omega
                · obtain rfl : T = k := by
                    have := rest_ge (s := s) (k := k) (by omega)
                    rw [this, L.run_nil] at hkT
                    omega
                  clear hkT
                  rcases HV.out with ⟨v, HW, hNX⟩ | ⟨HW, hNX⟩
                  · have HM := Lib.hid (fun w1 w2 val' => HA.out.more (w1 := w1) (w2 := w2) (val' := val') hlt HTT.out hNX)
                    have HW' := Lib.hid HW
                    clear HW hNX
                    go_wp2_with fail
                    with_reducible refine (HW'.out _).mono ?_
                    rintro e w' ⟨rfl, rfl⟩
                    go_wp2_with (at_builtin; refine wpList_append_own _ rfl (.tmp 127) (.tmp 129) 35 rfl w.heap.size 45 i0 (.agg #[.int .i64 0, .string ⟨#[]⟩, .int .i64 0, .int .i64 0]) 4 40 Try.underlying35 HI.out HZ0.out HZ1.out HZ2.out rfl (by decide) _ _ _ rfl ((hown.alloc _).alloc _) ⟨wr.heap.size + 1, 0, none⟩ 1 1 [.int .i64 2, .string (s.extract m T), .int .i64 v, .int .i64 m] rfl rfl (new4' _ _ (by simp) _ _ _ _ _) (one4 _ _ _ _) (by unfold maxLen; omega) (by omega) (by simp; omega) ?_; intro v' w2 hown2 hgrow2 _)
                    go_roundw
                    case rel => exact HM.out _ _ _ ((Below.refl _ _).alloc (Nat.le_refl _) _) _ rfl rfl hown2 hgrow2
                    case measure => simp [intOf]; omega
                  · have HM := Lib.hid (fun w1 w2 => HA.out.bad (w1 := w1) (w2 := w2) hlt hNX)
                    have HW' := Lib.hid HW
                    clear HW hNX
                    obtain ⟨c0, c1, f0, f1⟩ := two_cells HBL.out
                    have hBl := hB.lt
                    go_wp2_with fail
                    with_reducible refine (HW'.out _).mono ?_
                    rintro e w' ⟨rfl, rfl⟩
                    go_wp2_with fail
                    exact bodyPost_ret (results_two (q := 2) (p := 3) rfl _ _ (.slice none 0 0) w.heap.size 38 #[.int .i64 3, .int .i64 (m : Nat)] (0, 0) _ rfl rfl (Blk.alloc (fault_blk HBL.out) _) Try.underlying38 rfl (by kernel_rfl)) rfl (HM.out wr _ (Below.refl _ _) ((((Below.refl _ _).setCell (p := ⟨w.heap.size, 0, none⟩) (Nat.le_refl _) _).setCell (p := ⟨w.heap.size, 1, none⟩) (Nat.le_refl _) _).alloc (by simp; omega) _) rfl)
          · have b1 : (((s[m].toNat : Nat) : Int) == 47) = false := byte_is (L.let_not hlet).2.1
            have HX := Lib.hid (nx_word_at hlt hlet)
            have HLE := Lib.hid hlet
            have hT := run_in L.alnB s m hm
            have hT0 : 0 < L.run L.alnB (rest s m) := by rw [run_bat (by rw [bat_lt hlt]; simp [L.alnB, hlet])]; omega
            have H0 := Lib.hid (show PastR s L.alnB (m + L.run L.alnB (rest s m)) (.int .i64 m) from ⟨m, rfl, hm, rfl⟩)
            clear hrm hlet
            generalize hTT : m + L.run L.alnB (rest s m) = T at *
            have HTT := Lib.hid hTT
            have hmT : m < T := by omega
            clear hTT hT0
            have HM := Lib.hid (fun w1 w2 val' => HA.out.more (w1 := w1) (w2 := w2) (val' := val') hlt HTT.out HX.out)
            go_wp2_with fail
            with_reducible refine (rblank_any.call _ _).mono ?_
            rintro e w' ⟨rfl, rfl⟩
            rw [HBK.out]
            go_wp2_with fail
            with_reducible refine (rletter_any.call _ _).mono ?_
            rintro e w' ⟨rfl, rfl⟩
            rw [HLE.out]
            go_wp2_with fail
            go_loop [6] (fun t => PastR s L.alnB T t) (fun t => s.size - (intOf t).toNat)
            case atStart => exact H0.out
            case round =>
              obtain ⟨k, rfl, hk, hkT⟩ := hrel
              by_cases hkl : k < s.size
              · cases h1 : L.letB s[k]
                · cases h2 : L.digB s[k]
                  · have hb : bat L.alnB s k = false := by rw [bat_lt hkl]; simp [L.alnB, h1, h2]
                    obtain rfl : T = k := by have := run_nat hb; omega
                    have H1 := Lib.hid h1
                    have H2 := Lib.hid h2
                    clear hkT hb h1 h2
                    go_wp2_with fail
                    with_reducible refine (rletter_any.call _ _).mono ?_
                    rintro e w' ⟨rfl, rfl⟩
                    rw [H1.out]
                    go_wp2_with fail
                    with_reducible refine (rdigit_any.call _ _).mono ?_
                    rintro e w' ⟨rfl, rfl⟩
                    rw [H2.out]
                    go_wp2_with (at_builtin; refine wpList_append_own _ rfl (.tmp 127) (.tmp 129) 35 rfl w.heap.size 45 i0 (.agg #[.int .i64 0, .string ⟨#[]⟩, .int .i64 0, .int .i64 0]) 4 40 Try.underlying35 HI.out HZ0.out HZ1.out HZ2.out rfl (by decide) _ _ _ rfl ((hown.alloc _).alloc _) ⟨wr.heap.size + 1, 0, none⟩ 1 1 [.int .i64 1, .string (s.extract m T), .int .i64 0, .int .i64 m] rfl rfl (new4' _ _ (by simp) _ _ _ _ _) (one4 _ _ _ _) (by unfold maxLen; omega) (by omega) (by simp; omega) ?_; intro v' w2 hown2 hgrow2 _)
                    go_roundw
                    case rel => exact HM.out _ _ _ ((Below.refl _ _).alloc (Nat.le_refl _) _) _ rfl rfl hown2 hgrow2
                    case measure => simp [intOf]; omega
                  · have hb : bat L.alnB s k = true := by rw [bat_lt hkl]; simp [L.alnB, h1, h2]
                    have HR := Lib.hid (run_bat hb)
                    have HKT := Lib.hid hkT
                    have H1 := Lib.hid h1
                    have H2 := Lib.hid h2
                    clear hkT hb h1 h2
                    go_wp2_with fail
                    with_reducible refine (rletter_any.call _ _).mono ?_
                    rintro e w' ⟨rfl, rfl⟩
                    rw [H1.out]
                    go_wp2_with fail
                    with_reducible refine (rdigit_any.call _ _).mono ?_
                    rintro e w' ⟨rfl, rfl⟩
                    rw [H2.out]
                    go_wp2_with fail
                    go_round
                    case rel => exact ⟨k + 1, by go_num, by omega, by have := HKT.out; rw [HR.out] at this; omega⟩
                    case measure => simp [intOf]; omega
                · have hb : bat L.alnB s k = true := by rw [bat_lt hkl]; simp [L.alnB, h1]
                  have HR := Lib.hid (run_bat hb)
                  have HKT := Lib.hid hkT
                  have H1 := Lib.hid h1
                  clear hkT hb h1
                  go_wp2_with fail
                  with_reducible refine (rletter_any.call _ _).mono ?_
                  rintro e w' ⟨rfl, rfl⟩
                  rw [H1.out]
                  go_wp2_with fail
                  go_round
                  case rel => exact ⟨k + 1, by go_num, by omega, by have := HKT.out; rw [HR.out] at this; omega⟩
                  case measure => simp [intOf]; omega
              · obtain rfl : T = k := by
                  have := rest_ge (s := s) (k := k) (by omega)
                  rw [this, L.run_nil] at hkT
                  omega
                clear hkT
                go_wp2_with (at_builtin; refine wpList_append_own _ rfl (.tmp 127) (.tmp 129) 35 rfl w.heap.size 45 i0 (.agg #[.int .i64 0, .string ⟨#[]⟩, .int .i64 0, .int .i64 0]) 4 40 Try.underlying35 HI.out HZ0.out HZ1.out HZ2.out rfl (by decide) _ _ _ rfl ((hown.alloc _).alloc _) ⟨wr.heap.size + 1, 0, none⟩ 1 1 [.int .i64 1, .string (s.extract m T), .int .i64 0, .int .i64 m] rfl rfl (new4' _ _ (by simp) _ _ _ _ _) (one4 _ _ _ _) (by unfold maxLen; omega) (by omega) (by simp; omega) ?_; intro v' w2 hown2 hgrow2 _)
                go_roundw
                case rel => exact HM.out _ _ _ ((Below.refl _ _).alloc (Nat.le_refl _) _) _ rfl rfl hown2 hgrow2
                case measure => simp [intOf]; omega
        · obtain ⟨h1, ha, hb⟩ := remark_yes hlt hrm
          have b1 : (((s[m].toNat : Nat) : Int) == 47) = true := byte_is ha
          have b2 : (((s[m + 1].toNat : Nat) : Int) == 47) = true := byte_is hb
          have b3 : decide ((1 : Int) < (s.size : Int) - (m : Int)) = true := by simp; omega
          have HL := Lib.hid (skip_line hrm)
          have hT := run_in L.not10 s m hm
          have hT0 := line_pos _ hrm
          have H0 := Lib.hid (show PastR s L.not10 (m + L.run L.not10 (rest s m)) (.int .i64 m) from ⟨m, rfl, hm, rfl⟩)
          clear ha hb hrm
          generalize hTT : m + L.run L.not10 (rest s m) = T at *
          have hmT : m < T := by omega
          clear hTT hT0
          have HN := Lib.hid (HA.out.skip (T := T) (by omega) hT HL.out)
          go_wp2_with fail
          with_reducible refine (rblank_any.call _ _).mono ?_
          rintro e w' ⟨rfl, rfl⟩
          rw [HBK.out]
          go_wp2_with fail
          go_loop [5] (fun t => PastR s L.not10 T t) (fun t => s.size - (intOf t).toNat)
          case atStart => exact H0.out
          case round =>
            obtain ⟨k, rfl, hk, hkT⟩ := hrel
            by_cases hkl : k < s.size
            · cases h10 : L.not10 s[k]
              · have hb : bat L.not10 s k = false := by rw [bat_lt hkl]; exact h10
                obtain rfl : T = k := by have := run_nat hb; omega
                have c1 : (((s[T].toNat : Nat) : Int) != 10) = false := by rw [ne10]; exact h10
                clear hkT hb h10
                go_wp2_with fail
                go_roundw
                case rel => exact HN.out
                case measure => simp [intOf]; omega
              · have hb : bat L.not10 s k = true := by rw [bat_lt hkl]; exact h10
                have HR := Lib.hid (run_bat hb)
                have HKT := Lib.hid hkT
                have c1 : (((s[k].toNat : Nat) : Int) != 10) = true := by rw [ne10]; exact h10
                clear hkT hb h10
                go_wp2_with fail
                go_round
                case rel => exact ⟨k + 1, by go_num, by omega, by have := HKT.out; rw [HR.out] at this; omega⟩
                case measure => simp [intOf]; omega
            · obtain rfl : T = k := by
                have := rest_ge (s := s) (k := k) (by omega)
                rw [this, L.run_nil] at hkT
                omega
              clear hkT
              go_wp2_with fail
              go_roundw
              case rel => exact HN.out
              case measure => simp [intOf]; omega
      · have HN := Lib.hid (HA.out.skip (T := m + 1) (by omega) (by omega) (skip_blank hlt hbk))
        have HBK := Lib.hid hbk
        clear hbk
        go_wp2_with fail
        with_reducible refine (rblank_any.call _ _).mono ?_
        rintro e w' ⟨rfl, rfl⟩
        rw [HBK.out]
        go_wp2_with fail
        go_roundw
        case rel => exact HN.out
        case measure => simp [intOf]; omega
    · have HD := Lib.hid (fun o val' w2 hown2 hg hB2 => lexTo_end (w2 := w2) (val' := val') hlt hm HE.out hB hbel hown o hown2 hg hB2)
      have hBl := hB.lt
      have HNE := Lib.hid (own_ne (t' := 38) hown hB (by decide))
      have HMS := Lib.hid (show (s.size : Int) = (m : Int) by omega)
      go_wp2_with (at_builtin; refine wpList_append_own _ rfl (.tmp 132) (.tmp 136) 35 rfl w.heap.size 45 i0 (.agg #[.int .i64 0, .string ⟨#[]⟩, .int .i64 0, .int .i64 0]) 4 40 Try.underlying35 HI.out HZ0.out HZ1.out HZ2.out rfl (by decide) _ _ _ rfl (hown.alloc _) ⟨wr.heap.size, 0, none⟩ 1 1 [.int .i64 4, .string ⟨#[]⟩, .int .i64 0, .int .i64 (s.size : Nat)] rfl rfl (new4' _ _ rfl _ _ _ _ _) (one4 _ _ _ _) (by unfold maxLen; omega) (by omega) (by simp; omega) ?_; intro v' w2 hown2 hgrow2 _; have hB2 : Blk w2 w.heap.size 38 #[.int .i64 0, .int .i64 0] := (hgrow2.block w.heap.size (hB.alloc _).lt (fun e => HNE.out e.symm)).trans (hB.alloc _); obtain ⟨c0, c1, f0, f1⟩ := two_cells hB2)
      rw [HMS.out] at hown2
      exact bodyPost_ret (results_two (q := 2) (p := 3) rfl _ _ v' w.heap.size 38 #[.int .i64 0, .int .i64 0] (0, 0) _ rfl rfl (fault_blk hB2) Try.underlying38 rfl (by kernel_rfl)) rfl (HD.out _ _ _ hown2 hgrow2 hB2)
set_option maxRecDepth 100000 in
set_option maxHeartbeats 400000 in
theorem rlex_great (s : ByteArray) (w : World) (hs : ¬ s.size ≤ 4096) : Calls Try.prog 10 #[.string s] w (LexTo (.error (.long, 0)) w) := by
  have hb0 : decide ((4096 : Int) < (s.size : Int)) = true := by simp; omega
  go_enter Try.func10, Try.ntmps10
  go_wp2_with fail
  exact bodyPost_ret (results_two (q := 2) (p := 3) rfl _ _ (.slice none 0 0) w.heap.size 38 #[.int .i64 3, .int .i64 0] (0, 0) _ rfl rfl (Blk.new w _ _) Try.underlying38 rfl (by kernel_rfl)) rfl ⟨_, rfl, World.ownsRow_nil _ _ _ _, (Below.refl _ _).alloc (Nat.le_refl _) _⟩
theorem rlex_any (s : ByteArray) (w : World) : Calls Try.prog 10 #[.string s] w (LexTo (lexA s) w) := by
  unfold lexA
  split
  · exact rlex_short s w ‹_›
  · exact rlex_great s w ‹_›
end Go.Proofs.Ytihhkppimeagfaa.Lx
