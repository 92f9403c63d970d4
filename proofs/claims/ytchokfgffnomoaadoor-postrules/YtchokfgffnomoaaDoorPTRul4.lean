/-
  The maker of conditions, whatever bytes; PostRules' walk: for every two rows of bytes and every outcome the call returns true.
-/
import Derived.Test.YtchokfgffnomoaaDoorPTRul2
import Derived.Test.YtchokfgffnomoaaDoorPTRul3
namespace Go.Proofs.YtchokfgffnomoaaDoor.Lx
open Go.RowKit
open P (CO hd)
set_option maxRecDepth 100000
set_option linter.unusedVariables false
set_option linter.unusedSimpArgs false
theorem cond11_any : ∀ (d : Nat), d ≤ 50 → ∀ (u w : World) (a : Option Addr) (n c : Nat) (xs : List Nat), Below u.heap.size u w → Bts u a n c xs → Calls Tryd.prog 31 #[.slice a n c, .int .i64 (d : Nat)] w (CondTo d u w)
  | d, hd', u, w, a, n, c, [], hb, h => cond11_nil d u w hb a n c h _
  | d, hd', u, w, a, n, c, x :: xs, hb, h => by
    have hn : 0 < n := by have := h.1.1; rw [List.length_cons] at this; omega
    obtain ⟨g, off, rfl, _⟩ := h.1.at hn
    have hx256 : x < 256 := h.1.2.2.1 0
    by_cases hl : d = 0 ∨ x % 5 ≤ 1
    · by_cases hc : c = 1
      · by_cases h0 : d = 0
        · exact cond11_leafEZ d u w hb g off n c x xs h hc h0 _ rfl
        · exact cond11_leafES d u w hb g off n c x xs h hc ⟨by omega, by omega⟩ _ rfl
      · by_cases h0 : d = 0
        · exact cond11_leafTZ d u w hb g off n c x xs h hc h0 _ rfl
        · exact cond11_leafTS d u w hb g off n c x xs h hc ⟨by omega, by omega⟩ _ rfl
    · match d, hd', hl with
      | 0, _, hl => exact absurd (.inl rfl) hl
      | d + 1, hd', hl =>
        have IH := cond11_any d (by omega)
        have IH' : ∀ (u w : World) (a : Option Addr) (n c : Nat) (xs : List Nat), Below u.heap.size u w → Bts u a n c xs → Calls Tryd.prog 31 #[.slice a n c, .int .i64 (d : Nat)] w (CondTo d u w) := IH
        rw [show ((d + 1 : Nat) : Int) = (d : Int) + 1 by omega]
        have hm : x % 5 = 2 ∨ x % 5 = 3 ∨ x % 5 = 4 := by omega
        by_cases hc : c = 1
        · rcases hm with hm | hm | hm
          · exact cond11_inE2 d (by omega) IH' u w hb g off n c x xs h hc hm
          · exact cond11_inE3 d (by omega) IH' u w hb g off n c x xs h hc hm
          · exact cond11_inE4 d (by omega) IH' u w hb g off n c x xs h hc hm
        · rcases hm with hm | hm | hm
          · exact cond11_inT2 d (by omega) IH' u w hb g off n c x xs h hc hm
          · exact cond11_inT3 d (by omega) IH' u w hb g off n c x xs h hc hm
          · exact cond11_inT4 d (by omega) IH' u w hb g off n c x xs h hc hm
theorem bel_allocR {V w' : World} (h : Below V.heap.size V w') (o : Obj) : Below V.heap.size V (w'.alloc o) := h.alloc h.size o
theorem blk_drewR (w : World) (t : TypeId) (cs : Array Value) : Blk (w.alloc (.cells cs t)).drew w.heap.size t cs := by
  have h := Blk.new w t cs
  exact h
theorem lc_first {Q : Nat → Prop} {g : Nat} {w : World} {o m u : Int} {s : List UInt8} {c : Nat} {x : CO} {x0 x1 x2 x3 x4 y0 y1 y2 y3 y4 : Value} (hg : Q g) (hB : Blk w g 26 #[x0, x1, x2, x3, x4, y0, y1, y2, y3, y4])
    (hx : LC Q w (.agg #[x0, x1, x2, x3, x4]) x) : LC Q w (.agg #[.int .i64 o, .int .i64 m, .string (bs s), .int .i64 u, .slice (some ⟨g, 0, none⟩) 1 c]) (.mk o m s u [x]) := by
  unfold LC
  refine ⟨_, c, rfl, show 1 ≤ maxLen by decide, .inr ⟨g, 0, rfl, hg, ?_⟩⟩
  unfold LCs
  refine ⟨⟨x0, x1, x2, x3, x4, hB.cell 0, hB.cell 1, hB.cell 2, hB.cell 3, hB.cell 4, hx⟩, ?_⟩
  unfold LCs
  trivial
theorem rows_m {r0 r1 r2 r3 : Nat} : ∀ i, i < 2 → ((mR r0 r1 r2 r3).getD i []).length = 2 := fun i hi => lenRi hi
theorem hd_up {RV : List (List Int)} {MV : List Int} {c : CO} {b : Bool} (h : hd nL nG RV MV 4 c = some b) : hd nL nG RV MV 5 c = some b ∧ hd nL nG RV MV 6 c = some b := ⟨P.hd_more 4 c b h, P.hd_more 5 c b (P.hd_more 4 c b h)⟩
theorem hd_and {RV : List (List Int)} {MV : List Int} {a c : CO} {p q : Bool} (h : hd nL nG RV MV 4 a = some p) (h' : hd nL nG RV MV 4 c = some q) : hd nL nG RV MV 6 (.mk 4 0 [] 0 [a, c]) = some (p && q) := by
  rw [P.hd_two' (by decide), (hd_up h).1, (hd_up h').1]
  rfl
theorem hd_or {RV : List (List Int)} {MV : List Int} {a c : CO} {p q : Bool} (h : hd nL nG RV MV 4 a = some p) (h' : hd nL nG RV MV 4 c = some q) : hd nL nG RV MV 6 (.mk 5 0 [] 0 [a, c]) = some (p || q) := by
  rw [P.hd_two' (by decide), (hd_up h).1, (hd_up h').1]
  rfl
theorem hd_n1 {RV : List (List Int)} {MV : List Int} {a : CO} {p : Bool} (h : hd nL nG RV MV 4 a = some p) : hd nL nG RV MV 6 (.mk 3 0 [] 0 [a]) = some (!p) := by
  rw [P.hd_not rfl, (hd_up h).1]
  rfl
theorem hd_n2 {RV : List (List Int)} {MV : List Int} {a : CO} {p : Bool} (h : hd nL nG RV MV 4 a = some p) : hd nL nG RV MV 6 (.mk 3 0 [] 0 [.mk 3 0 [] 0 [a]]) = some p := by
  rw [P.hd_not rfl, P.hd_not rfl, h]
  cases p <;> rfl
set_option maxHeartbeats 25600000 in
theorem postrules_walk (a0 : Option Addr) (len0 cap0 : Nat) (xs0 : List Nat) (a1 : Option Addr) (len1 cap1 : Nat) (xs1 : List Nat) (r0 r1 r2 r3 r4 r5 : Nat) (w : World) (hl : Bts w a0 len0 cap0 xs0) (hm : Bts w a1 len1 cap1 xs1) (h0 : r0 < 256) (h1 : r1 < 256) (h2 : r2 < 256) (h3 : r3 < 256) (h4 : r4 < 256) (h5 : r5 < 256) (ht : Tp w.heap.size w) :
    Calls Tryd.prog 5 #[.slice a0 len0 cap0, .slice a1 len1 cap1, .agg #[.int .u8 (r0 : Nat), .int .u8 (r1 : Nat), .int .u8 (r2 : Nat), .int .u8 (r3 : Nat), .int .u8 (r4 : Nat), .int .u8 (r5 : Nat)]] w fun e w' => e = .returned (.bool true) ∧ Below w.heap.size w w' := by
  have HB0 := Lib.hid (one_belowC w (.cells #[.int .u8 (r0 : Nat), .int .u8 (r1 : Nat), .int .u8 (r2 : Nat), .int .u8 (r3 : Nat), .int .u8 (r4 : Nat), .int .u8 (r5 : Nat)] 55))
  have HQ0 := Lib.hid (Blk.new w 55 #[.int .u8 (r0 : Nat), .int .u8 (r1 : Nat), .int .u8 (r2 : Nat), .int .u8 (r3 : Nat), .int .u8 (r4 : Nat), .int .u8 (r5 : Nat)])
  have HT := Lib.hid ht
  have hsz := HB0.out.size
  have HBG := Lib.hid (begun11_any (B := w.heap.size) _ hsz (ht.low (Nat.le_refl _) HB0.out))
  have HMD := Lib.hid (fun w' => made11_any r0 r1 r2 r3 r4 r5 w' h0 h1 h2 h3 h4 h5)
  have HL := Lib.hid hl
  have HM := Lib.hid hm
  have hm0 := hl.1.2.1
  have hm1 := hm.1.2.1
  clear ht h0 h1 h2 h3 h4 h5 hl hm
  go_enter Tryd.func5, Tryd.ntmps5
  go_wp2_with fail
  generalize hW : w.alloc (.cells #[.int .u8 (r0 : Nat), .int .u8 (r1 : Nat), .int .u8 (r2 : Nat), .int .u8 (r3 : Nat), .int .u8 (r4 : Nat), .int .u8 (r5 : Nat)] 55) = W at *
  clear hW
  with_reducible refine HBG.out.mono ?_
  rintro e w1 ⟨rfl, hb1⟩
  have HB1 := Lib.hid (HB0.out.trans (hb1.mono HB0.out.size))
  have HQ1 := Lib.hid (HQ0.out.live' hb1)
  clear hb1 HBG
  by_cases c0 : 20 < len0
  · have d0 : decide ((20 : Int) < (len0 : Int)) = true := decide_eq_true (by omega)
    have d0' : decide (20 < len0) = true := decide_eq_true c0
    go_wp2_with fail
    go_ret
    exact ⟨rfl, HB1.out⟩
  have d0 : decide ((20 : Int) < (len0 : Int)) = false := decide_eq_false (by omega)
  have d0' : decide (20 < len0) = false := decide_eq_false c0
  by_cases c1 : 20 < len1
  · have d1 : decide ((20 : Int) < (len1 : Int)) = true := decide_eq_true (by omega)
    have d1' : decide (20 < len1) = true := decide_eq_true c1
    go_wp2_with fail
    go_ret
    exact ⟨rfl, HB1.out⟩
  have d1 : decide ((20 : Int) < (len1 : Int)) = false := decide_eq_false (by omega)
  have d1' : decide (20 < len1) = false := decide_eq_false c1
  go_wp2_with fail
  with_reducible refine (names_any w1).mono ?_
  rintro e w2 ⟨la, ga, rfl, hnam, hb2⟩
  have HN := Lib.hid hnam
  have HB2 := Lib.hid (HB1.out.trans (hb2.mono HB1.out.size))
  have HQ2 := Lib.hid (HQ1.out.live' hb2)
  have q := HQ2.out
  have q0 : w2.cell? ⟨w.heap.size, 0, none⟩ = some (.int .u8 (r0 : Nat)) := q.cell 0
  have q1 : w2.cell? ⟨w.heap.size, 1, none⟩ = some (.int .u8 (r1 : Nat)) := q.cell 1
  have q2 : w2.cell? ⟨w.heap.size, 2, none⟩ = some (.int .u8 (r2 : Nat)) := q.cell 2
  have q3 : w2.cell? ⟨w.heap.size, 3, none⟩ = some (.int .u8 (r3 : Nat)) := q.cell 3
  have q4 : w2.cell? ⟨w.heap.size, 4, none⟩ = some (.int .u8 (r4 : Nat)) := q.cell 4
  have q5 : w2.cell? ⟨w.heap.size, 5, none⟩ = some (.int .u8 (r5 : Nat)) := q.cell 5
  clear hb2 hnam q HB1 HQ1
  go_wp2_with fail
  with_reducible refine (HMD.out w2).mono ?_
  rintro e w3 ⟨ra, ma, rfl, hout, hb3⟩
  have hak := (⟨HN.out.low hb3, hout, sml_m r0 r1 r2 r3 r4 r5⟩ : AkIn w3 la ga ra ma 2 2 nL nG (mR r0 r1 r2 r3) (mM r4 r5))
  have HQ3 := Lib.hid (Blk.new w3 46 #[.slice ra 2 2, .slice ma 2 2])
  have hb4 := one_belowC w3 (.cells #[.slice ra 2 2, .slice ma 2 2] 46)
  have HAK := Lib.hid (hak.low hb4)
  have HB3 := Lib.hid ((HB2.out.trans (hb3.mono HB2.out.size)).trans (hb4.mono (HB2.out.trans (hb3.mono HB2.out.size)).size))
  clear q0 q1 q2 q3 q4 q5 hb3 hb4 hout hak HN HQ2 HB2 HMD HQ0 HB0
  go_wp2_with fail
  generalize hZ : w3.alloc (.cells #[.slice ra 2 2, .slice ma 2 2] 46) = Z at *
  clear hZ
  have HRL : Hid ((mR r0 r1 r2 r3).length = 2) := Lib.hid rfl
  have HML : Hid ((mM r4 r5).length = 2) := Lib.hid rfl
  have HRI := Lib.hid (rows_m (r0 := r0) (r1 := r1) (r2 := r2) (r3 := r3))
  generalize mR r0 r1 r2 r3 = RV at *
  generalize mM r4 r5 = MV at *
  have HC1 := Lib.hid (cond11_any 3 (by decide) w Z _ _ _ _ HB3.out HL.out)
  rw [show ((3 : Nat) : Int) = 3 from rfl] at HC1
  with_reducible refine HC1.out.mono ?_
  rintro e w4 ⟨o1, t1, S1, n1, ka1, kl1, kc1, c1', ra1, rn1, rc1, ys1, rfl, hlc1, hok1, hbt1, hb4⟩
  have HL1 := Lib.hid (LC.mono (Q' := fun _ => True) (fun _ _ _ => trivial) _ hlc1)
  obtain ⟨p, hp⟩ := hok1 RV MV HRL.out HML.out HRI.out
  have HP := Lib.hid hp
  have HB4 := Lib.hid hb4
  have HA4 := Lib.hid (Blk.new w4 26 #[.int .i64 o1, .int .i64 t1, .string S1, .int .i64 n1, .slice ka1 kl1 kc1])
  have hb5 := one_belowC w4 (.cells #[.int .i64 o1, .int .i64 t1, .string S1, .int .i64 n1, .slice ka1 kl1 kc1] 26)
  have HB5 := Lib.hid (hb4.trans (hb5.mono hb4.size))
  have HL15 := Lib.hid (HL1.out.low hb5)
  clear hlc1 hok1 hbt1 hb4 hb5 HC1 hp
  go_wp2_with fail
  generalize hX : w4.alloc (.cells #[.int .i64 o1, .int .i64 t1, .string S1, .int .i64 n1, .slice ka1 kl1 kc1] 26) = X at *
  clear hX
  have HC2 := Lib.hid (cond11_any 3 (by decide) w X _ _ _ _ (HB3.out.trans (HB5.out.mono HB3.out.size)) HM.out)
  rw [show ((3 : Nat) : Int) = 3 from rfl] at HC2
  with_reducible refine HC2.out.mono ?_
  rintro e w6 ⟨o2, t2, S2, n2, ka2, kl2, kc2, c2', ra2, rn2, rc2, ys2, rfl, hlc2, hok2, hbt2, hb6⟩
  have HL2 := Lib.hid (LC.mono (Q' := fun _ => True) (fun _ _ _ => trivial) _ hlc2)
  obtain ⟨q, hq⟩ := hok2 RV MV HRL.out HML.out HRI.out
  have HQ := Lib.hid hq
  have HB6 := Lib.hid (HB5.out.trans (hb6.mono HB5.out.size))
  have HA6 := Lib.hid (HA4.out.live' hb6)
  have HL16 := Lib.hid (HL15.out.low hb6)
  have HD6 := Lib.hid (Blk.new w6 26 #[.int .i64 o2, .int .i64 t2, .string S2, .int .i64 n2, .slice ka2 kl2 kc2])
  have hb7 := one_belowC w6 (.cells #[.int .i64 o2, .int .i64 t2, .string S2, .int .i64 n2, .slice ka2 kl2 kc2] 26)
  have HB7 := Lib.hid (HB6.out.trans (hb7.mono HB6.out.size))
  have HA7 := Lib.hid (HA6.out.live' hb7)
  have HLA := Lib.hid (HL16.out.low hb7)
  have HLB := Lib.hid (HL2.out.low hb7)
  clear hlc2 hok2 hbt2 hb6 hb7 HC2 hq HL1 HL15 HL16 HL2 HA4 HA6
  obtain ⟨u0, u1, u2, u3, u4⟩ := five_freeC HA7.out
  obtain ⟨v0, v1⟩ := two_freeP (HQ3.out.live' HB7.out)
  go_wp2_with fail
  generalize hY : w6.alloc (.cells #[.int .i64 o2, .int .i64 t2, .string S2, .int .i64 n2, .slice ka2 kl2 kc2] 26) = Y at *
  clear hY
  have hHA := fun w' (hb : Below Y.heap.size Y w') => postHolds_any (gc := 2) (rc := 2) c1' w' _ _ _ _ _ _ _ (HAK.out.low (HB7.out.trans (hb.mono HB7.out.size))) (HLA.out.low hb)
  rw [(hd_up HP.out).2] at hHA
  have hHB := fun w' (hb : Below Y.heap.size Y w') => postHolds_any (gc := 2) (rc := 2) c2' w' _ _ _ _ _ _ _ (HAK.out.low (HB7.out.trans (hb.mono HB7.out.size))) (HLB.out.low hb)
  rw [(hd_up HQ.out).2] at hHB
  simp only [lenL, lenG, HRL.out, HML.out] at hHA hHB
  unfold HoTo holdR at hHA hHB
  have HHA := Lib.hid hHA
  have HHB := Lib.hid hHB
  clear hHA hHB
  cases p
  all_goals
    cases q
    all_goals
      have HA1 := Lib.hid (HHA.out Y (Below.refl _ _))
      with_reducible refine HA1.out.mono ?_
      rintro e w8 ⟨rfl, hb8⟩
      have HB8 := Lib.hid hb8
      have HBB := Lib.hid (HHB.out w8 hb8)
      clear u0 u1 u2 u3 u4 v0 v1 HA1
      obtain ⟨u0, u1, u2, u3, u4⟩ := five_freeC (HD6.out.live' hb8)
      obtain ⟨v0, v1⟩ := two_freeP ((HQ3.out.live' HB7.out).live' hb8)
      clear hb8
      go_wp2_with fail
      with_reducible refine HBB.out.mono ?_
      rintro e w9 ⟨rfl, hb9⟩
      have HB9 := Lib.hid (HB8.out.trans (hb9.mono HB8.out.size))
      clear u0 u1 u2 u3 u4 v0 v1 HBB hb9
      obtain ⟨u0, u1, u2, u3, u4⟩ := five_freeC (HD6.out.live' HB9.out)
      obtain ⟨y0, y1, y2, y3, y4⟩ := five_freeC (HA7.out.live' HB9.out)
      have hTb := Blk.new w9 26 #[.int .i64 o1, .int .i64 t1, .string S1, .int .i64 n1, .slice ka1 kl1 kc1, .int .i64 o2, .int .i64 t2, .string S2, .int .i64 n2, .slice ka2 kl2 kc2]
      have hbV := one_belowC w9 (.cells #[.int .i64 o1, .int .i64 t1, .string S1, .int .i64 n1, .slice ka1 kl1 kc1, .int .i64 o2, .int .i64 t2, .string S2, .int .i64 n2, .slice ka2 kl2 kc2] 26)
      have HBV := Lib.hid (HB9.out.trans (hbV.mono HB9.out.size))
      have HTB := Lib.hid hTb
      obtain ⟨v0, v1⟩ := two_freeP ((HQ3.out.live' HB7.out).live' HBV.out)
      clear hTb hbV
      go_wp2_with fail
      generalize hV : w9.alloc (.cells #[.int .i64 o1, .int .i64 t1, .string S1, .int .i64 n1, .slice ka1 kl1 kc1, .int .i64 o2, .int .i64 t2, .string S2, .int .i64 n2, .slice ka2 kl2 kc2] 26) = V at *
      clear hV u0 u1 u2 u3 u4 y0 y1 y2 y3 y4
      have HAV := Lib.hid (HAK.out.low (HB7.out.trans (HBV.out.mono HB7.out.size)))
      have HLAV := Lib.hid (HLA.out.low HBV.out)
      have HLBV := Lib.hid (HLB.out.low HBV.out)
      have hN := fun w' (hb : Below V.heap.size V w') => postHolds_any (gc := 2) (rc := 2) (.mk 4 0 [] 0 [c1', c2']) w' _ _ _ _ _ _ _ (HAV.out.low hb) (lc_two (c := 2) trivial (HTB.out.live' hb) (HLAV.out.low hb) (HLBV.out.low hb))
      rw [hd_and HP.out HQ.out] at hN
      have hO := fun w' (hb : Below V.heap.size V w') => postHolds_any (gc := 2) (rc := 2) (.mk 5 0 [] 0 [c1', c2']) w' _ _ _ _ _ _ _ (HAV.out.low hb) (lc_two (c := 2) trivial (HTB.out.live' hb) (HLAV.out.low hb) (HLBV.out.low hb))
      rw [hd_or HP.out HQ.out] at hO
      have h1 := fun w' (hb : Below V.heap.size V w') => postHolds_any (gc := 2) (rc := 2) (.mk 3 0 [] 0 [c1']) w' _ _ _ _ _ _ _ (HAV.out.low hb) (lc_first (c := 2) trivial (HTB.out.live' hb) (HLAV.out.low hb))
      rw [hd_n1 HP.out] at h1
      have h2 := fun w' g (hb : Below V.heap.size V w') (hB : Blk w' g 26 #[.int .i64 3, .int .i64 0, .string ⟨#[]⟩, .int .i64 0, .slice (some ⟨w9.heap.size, 0, none⟩) 1 2]) => postHolds_any (gc := 2) (rc := 2) (.mk 3 0 [] 0 [.mk 3 0 [] 0 [c1']]) w' _ _ _ _ _ _ _ (HAV.out.low hb) (lc_one (c := 1) trivial hB (lc_first (s := []) (c := 2) trivial (HTB.out.live' hb) (HLAV.out.low hb)))
      rw [hd_n2 HP.out] at h2
      simp only [lenL, lenG, HRL.out, HML.out] at hN hO h1 h2
      unfold HoTo holdR at hN hO h1 h2
      rw [show bs [] = (⟨#[]⟩ : ByteArray) from rfl] at hN hO h1 h2
      have HNN := Lib.hid hN
      have HOO := Lib.hid hO
      have HH1 := Lib.hid (fun w' (hb : Below V.heap.size V w') => (h1 w' hb).mono fun e w'' hh => (show e = _ ∧ Below V.heap.size V w'' from ⟨hh.1, hb.trans (hh.2.mono hb.size)⟩))
      have HH2 := Lib.hid (fun w' g hb hB => (h2 w' g hb hB).mono fun e w'' hh => (show e = _ ∧ Below V.heap.size V w'' from ⟨hh.1, hb.trans (hh.2.mono hb.size)⟩))
      clear hN hO h1 h2
      have HKV := Lib.hid (show ∀ w', Below V.heap.size V w' → (w'.cell? ⟨w3.heap.size, 0, none⟩ = some (.slice ra 2 2) ∧ w'.cell? ⟨w3.heap.size, 1, none⟩ = some (.slice ma 2 2)) from fun w' hb => two_freeP (((HQ3.out.live' HB7.out).live' HBV.out).live' hb))
      with_reducible refine (HNN.out V (Below.refl _ _)).mono ?_
      rintro e w10 ⟨rfl, hb10⟩
      have HB10 := Lib.hid hb10
      obtain ⟨x0, x1⟩ := HKV.out w10 hb10
      clear v0 v1 hb10 HNN
      go_wp2_with fail
      with_reducible refine (HOO.out w10 HB10.out).mono ?_
      rintro e w11 ⟨rfl, hb11⟩
      have HB11 := Lib.hid (HB10.out.trans (hb11.mono HB10.out.size))
      clear x0 x1 hb11 HOO
      go_wp2_with fail
      have hb0 : Below V.heap.size V w11 := HB11.out
      have hbD : Below V.heap.size V w11.drew := HB11.out.trans ((Below.refl _ _).drew)
      have HK0 := Lib.hid (HKV.out w11 hb0)
      have HKD := Lib.hid (HKV.out w11.drew hbD)
      go_region_held3 (fun w' => (w'.cell? ⟨w3.heap.size, 0, none⟩ = some (.slice ra 2 2) ∧ w'.cell? ⟨w3.heap.size, 1, none⟩ = some (.slice ma 2 2)))
        (first
          | with_reducible exact HK0.out
          | with_reducible exact HKD.out
          | with_reducible assumption
          | go_keep)
        ((go_at_call 22; (with_reducible refine (HH1.out _ (by assumption)).mono ?_); rintro e w12 ⟨rfl, hb12⟩; have hS12 := HKV.out w12 hb12))
      all_goals
        have hbD2 : Below V.heap.size V w12.drew := hb12.trans ((Below.refl _ _).drew)
        have HK2 := Lib.hid hS12
        have HKD2 := Lib.hid (HKV.out w12.drew hbD2)
        clear hS12 HK0 HKD hb0 hbD
        go_wp2_with fail
        go_region_held3 (fun w' => (w'.cell? ⟨w3.heap.size, 0, none⟩ = some (.slice ra 2 2) ∧ w'.cell? ⟨w3.heap.size, 1, none⟩ = some (.slice ma 2 2)))
          (first
            | with_reducible exact HK2.out
            | with_reducible exact HKD2.out
            | with_reducible assumption
            | exact HKV.out _ (by first | assumption | exact bel_allocR (by assumption) _ | exact (bel_allocR (by assumption) _).drew)
            | go_keep)
          ((go_at_call 22; (with_reducible refine (HH2.out _ w12.heap.size (by first | assumption | exact bel_allocR (by assumption) _ | exact (bel_allocR (by assumption) _).drew) (by first | exact Blk.new w12 _ _ | exact blk_drewR w12 _ _ | exact Blk.new w12.drew _ _)).mono ?_); rintro e w13 ⟨rfl, hb13⟩; have hS13 := HKV.out w13 hb13))
        all_goals
          go_wp2_with fail
          go_ret
          exact ⟨rfl, HB3.out.trans ((HB7.out.trans ((HBV.out.trans (hb13.mono HBV.out.size)).mono HB7.out.size)).mono HB3.out.size)⟩
end Go.Proofs.YtchokfgffnomoaaDoor.Lx
