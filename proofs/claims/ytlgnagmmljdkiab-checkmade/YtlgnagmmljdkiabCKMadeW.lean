/-
  CheckMade: its walk. What is made may be.
-/
import Derived.Test.YtlgnagmmljdkiabCKE
import Derived.Test.YtlgnagmmljdkiabCKMM
import Derived.Test.YtlgnagmmljdkiabMMD
import Derived.Test.YtlgnagmmljdkiabLBytes

namespace Go.Proofs.Ytlgnagmmljdkiab.Lx
open Go.RowKit
open P (wth EX CO ST PG setsB regsL nodeE nodeC eachX eachXs eachC eachCs withinX withinC dpX dpXs dpC dpCs andE regE locE mayP cntL MX M0 MS MSs Sq MT MC MP locB regB)
set_option maxRecDepth 100000
set_option linter.unusedVariables false
set_option linter.unusedSimpArgs false

/-- Names that are short. -/
def Sh (rs : List (List UInt8)) : Prop := ∀ s ∈ rs, s.length ≤ 1000
theorem sh_max {n : Nat} (h : n ≤ 1000) : n ≤ maxLen := Nat.le_trans h (by decide)
theorem sh_wth {rs : List (List UInt8)} {s : List UInt8} (h : Sh rs) (hs : s.length ≤ 1000) : Sh (wth rs s) := by
  intro x hx
  unfold P.wth at hx
  split at hx
  · exact h x hx
  · rcases List.mem_append.1 hx with hx | hx
    · exact h x hx
    · rw [List.mem_singleton.1 hx]
      exact hs
theorem mx_wf {v : Nat} {rs : List (List UInt8)} {d : Nat} {e : EX} (hv : v ≤ 1000) (hr : Sh rs) (h : MX v rs d e) : wfX e := by
  induction h with
  | @num d k hk => exact ⟨w64_few (by omega) (by omega), w64_few (by omega) (by omega), sh_max (by simp), trivial⟩
  | @reg d s hs => exact ⟨w64_few (by omega) (by omega), w64_few (by omega) (by omega), sh_max (hr s hs), trivial⟩
  | @bin d op s a b hs ha hb iha ihb =>
    have := P.sgn_op hs
    exact ⟨w64_few (by omega) (by omega), w64_few (by omega) (by omega), sh_max (by simp), iha, ihb, trivial⟩
theorem ms_mk {k m : Int} {r l : List UInt8} {a : List EX} {th el : List ST} (h1 : 0 ≤ k ∧ k ≤ 1000) (h2 : 0 ≤ m ∧ m ≤ 1000) (h3 : r.length ≤ 1000) (h4 : l.length ≤ 1000) (h5 : wfXs a) (h6 : wfSs th) (h7 : wfSs el) : wfS (.mk k m r l a th el) := by
  unfold wfS
  exact ⟨w64_few h1.1 h1.2, w64_few h2.1 h2.2, sh_max h3, sh_max h4, h5, h6, h7⟩
theorem m0_wf {v k : Nat} {rs r : List (List UInt8)} {s : ST} (hv : v ≤ 1000) (hs : Sh rs) (h : M0 v k rs s r) : wfS s ∧ Sh r := by
  cases h with
  | @load m i j _ hm hi4 hj => exact ⟨ms_mk (by decide) (by omega) (by simp) (by simp) trivial trivial trivial, sh_wth hs (by simp)⟩
  | @store m j _ e hm hj he => exact ⟨ms_mk (by decide) (by omega) (by simp) (by simp) ⟨mx_wf hv hs he, trivial⟩ trivial trivial, hs⟩
  | @add m i j _ e hm hi4 hj he => exact ⟨ms_mk (by decide) (by omega) (by simp) (by simp) ⟨mx_wf hv hs he, trivial⟩ trivial trivial, sh_wth hs (by simp)⟩
  | @cas m i j _ e f hm hi4 hj he hf => exact ⟨ms_mk (by decide) (by omega) (by simp) (by simp) ⟨mx_wf hv hs he, mx_wf hv hs hf, trivial⟩ trivial trivial, sh_wth hs (by simp)⟩
  | @fence m _ hm hm5 => exact ⟨ms_mk (by decide) (by omega) (by simp) (by simp) trivial trivial trivial, hs⟩
  | @set i _ e hi4 he => exact ⟨ms_mk (by decide) (by omega) (by simp) (by simp) ⟨mx_wf hv hs he, trivial⟩ trivial trivial, sh_wth hs (by simp)⟩
theorem wfSs_snoc : ∀ {l : List ST} {s : ST}, wfSs l → wfS s → wfSs (l ++ [s])
  | [], s, _, hs => ⟨hs, trivial⟩
  | x :: l, s, h, hs => by
    unfold wfSs at h
    exact ⟨h.1, wfSs_snoc h.2 hs⟩
theorem sq_wf {R : List (List UInt8) → ST → List (List UInt8) → Prop} (hR : ∀ rs s r, R rs s r → Sh rs → wfS s ∧ Sh r) {rs r : List (List UInt8)} {l : List ST} (hs : Sh rs) (h : Sq R rs l r) : wfSs l ∧ Sh r := by
  induction h with
  | nil => exact ⟨trivial, hs⟩
  | @snoc r1 r2 l s hl h1 ih =>
    obtain ⟨g1, g2⟩ := ih
    obtain ⟨k1, k2⟩ := hR _ _ _ h1 g2
    exact ⟨wfSs_snoc g1 k1, k2⟩
theorem ms_wf {v k : Nat} (hv : v ≤ 1000) : ∀ (d : Nat) (rs : List (List UInt8)) (s : ST) (r : List (List UInt8)), MS v k d rs s r → Sh rs → wfS s ∧ Sh r
  | 0, rs, s, r, h, hs => m0_wf hv hs h
  | d + 1, rs, s, r, h, hs => by
    rcases h with h | ⟨rfl, e, th, el, r1, r2, rfl, he, hth, hlt, hel, hle⟩
    · exact m0_wf hv hs h
    · have g1 := sq_wf (fun rs s r (h : MS v k d rs s r) => ms_wf hv d rs s r h) hs hth
      have g2 := sq_wf (fun rs s r (h : MS v k d rs s r) => ms_wf hv d rs s r h) hs hel
      exact ⟨ms_mk (by decide) (by decide) (by simp) (by simp) ⟨mx_wf hv hs he, trivial⟩ g1.1 g2.1, hs⟩
theorem mt_wf {v k m d : Nat} (hv : v ≤ 1000) {ts : List (List ST)} {rg : List (List (List UInt8))} (h : MT v k m d ts rg) : (∀ l ∈ ts, wfSs l) ∧ ∀ rs ∈ rg, Sh rs := by
  induction h with
  | nil => exact ⟨fun l hl => (by cases hl), fun rs hrs => (by cases hrs)⟩
  | @snoc ls rg l r h0 hl hn ih =>
    have g := sq_wf (fun rs s r (h : MS v k d rs s r) => ms_wf hv d rs s r h) (fun s hs => (by cases hs)) hl
    refine ⟨fun l' hl' => ?_, fun rs hrs => ?_⟩
    · rcases List.mem_append.1 hl' with h | h
      · exact ih.1 l' h
      · rw [List.mem_singleton.1 h]
        exact g.1
    · rcases List.mem_append.1 hrs with h | h
      · exact ih.2 rs h
      · rw [List.mem_singleton.1 h]
        exact g.2
theorem mc_wf {v k : Nat} {rg : List (List (List UInt8))} (hv : v ≤ 1000) (hrg : ∀ rs ∈ rg, Sh rs) (hl : rg.length ≤ 1000) {d : Nat} {e : CO} (h : MC v k rg d e) : wfC e := by
  induction h with
  | @mem d j n hj hn =>
    unfold wfC
    exact ⟨w64_few (by omega) (by omega), w64_few (by omega) (by omega), sh_max (by simp), w64_few (by omega) (by omega), trivial⟩
  | @reg d t n rs s ht hs hn =>
    have hlt : t < rg.length := by
      rcases Nat.lt_or_ge t rg.length with h | h
      · exact h
      · rw [List.getElem?_eq_none h] at ht
        cases ht
    unfold wfC
    exact ⟨w64_few (by omega) (by omega), w64_few (by omega) (by omega), sh_max (hrg rs (List.mem_of_getElem? ht) s hs), w64_few (by omega) (by omega), trivial⟩
  | @not d a ha iha =>
    unfold wfC
    exact ⟨w64_few (by omega) (by omega), w64_few (by omega) (by omega), sh_max (by simp), w64_few (by omega) (by omega), iha, trivial⟩
  | @and d a b ha hb iha ihb =>
    unfold wfC
    exact ⟨w64_few (by omega) (by omega), w64_few (by omega) (by omega), sh_max (by simp), w64_few (by omega) (by omega), iha, ihb, trivial⟩
  | @or d a b ha hb iha ihb =>
    unfold wfC
    exact ⟨w64_few (by omega) (by omega), w64_few (by omega) (by omega), sh_max (by simp), w64_few (by omega) (by omega), iha, ihb, trivial⟩
theorem mp_wf {v k : Nat} {p : PG} (h : MP v k 4 1 p) (hv : v ≤ 4) (hk : k ≤ 4) (ht : p.threads.length ≤ 4) : WfP p := by
  obtain ⟨h1, h2, h3, h4, ⟨a, h5, ha⟩, rg, h6, h7⟩ := h
  have hm := P.MT.walk hk h6 0
  have hw := mt_wf (by omega) h6
  refine ⟨by rw [h1]; decide, fun c hc => ?_, fun l hl => ⟨hw.1 l hl, Nat.le_trans (hm.2.1 l hl) (by decide)⟩, mc_wf (by omega) hw.2 (by rw [h6.len]; omega) h7⟩
  obtain ⟨i, hi⟩ := List.getElem?_of_mem hc
  obtain ⟨n, hn, rfl⟩ := h3 i c hi
  exact sh_max (by simp)
set_option maxHeartbeats 3200000 in
theorem ckmade_law (a : Option Addr) (len cap : Nat) (xs : List Nat) (w : World) (hx : IsBytes w a len xs) : Calls Try.prog 3 #[.slice a len cap] w (fun e w' => e = .returned (.bool true) ∧ Below w.heap.size w w') := by
  have hlm := hx.2.1
  have HX := Lib.hid hx
  clear hx
  go_enter Try.func3, Try.ntmps3
  go_wp2_with fail
  with_reducible refine (begun9_any _).mono ?_
  rintro e w1 ⟨rfl, hb1⟩
  by_cases h80 : len ≤ 80
  · have d8 : decide ((80 : Int) < (len : Int)) = false := by simp; omega
    have d8' : decide (80 < len) = false := by simp; omega
    go_wp2_with fail
    clear d8 d8'
    with_reducible refine (made_any a len cap xs w1 (HX.out.below hb1)).mono ?_
    rintro e w2 ⟨M, rfl, hmk, hM, hb2⟩
    go_wp2_with fail
    with_reducible refine (prog7_any w2.heap.size M w2 hmk).mono ?_
    rintro e w3 ⟨vp, p, v, k, rfl, hlp, hmp, hv1, hv2, hk1, hk2, ht1, ht2, hmk3, ho3⟩
    have hs1 := hb1.size
    have hs2 := hb2.size
    have hs3 := ho3.size
    have HB3 := Lib.hid ((hb1.trans (hb2.mono hs1)).trans (ho3.below (B := w.heap.size) (by omega) (fun j hj e => by omega)))
    have HWF := Lib.hid (mp_wf hmp hv2 hk2 ht2)
    have HMAY := Lib.hid (hmp.may hv1 hv2 hk2 ht1 ht2)
    obtain ⟨pnm, pvl, pa1, pn1, pk1, pa2, pn2, pk2, pak, pxo, pxt, pxs, pxn, pxa, pxm, pxc, rfl⟩ := hlp.any
    have HLP3 := Lib.hid (show LPg (fun _ => True) w3 (.agg #[.string pnm, .int .i64 pvl, .slice pa1 pn1 pk1, .slice pa2 pn2 pk2, .int .i64 pak, .int .i64 pxo, .int .i64 pxt, .string pxs, .int .i64 pxn, .slice pxa pxm pxc]) p from LPg.step (fun b _ _ => ⟨trivial, rfl⟩) hlp)
    clear hmp hmk hmk3 ho3 hb1 hb2 hlp hM hv1 hv2 hk1 hk2 ht1 ht2 hs1 hs2 hs3
    go_wp2_with fail
    have hbA := one_belowN w3 (.cells #[.string pnm, .int .i64 pvl, .slice pa1 pn1 pk1, .slice pa2 pn2 pk2, .int .i64 pak, .int .i64 pxo, .int .i64 pxt, .string pxs, .int .i64 pxn, .slice pxa pxm pxc] 30)
    have hPA := Blk.new w3 30 #[.string pnm, .int .i64 pvl, .slice pa1 pn1 pk1, .slice pa2 pn2 pk2, .int .i64 pak, .int .i64 pxo, .int .i64 pxt, .string pxs, .int .i64 pxn, .slice pxa pxm pxc]
    have HLP4 := Lib.hid (HLP3.out.below hbA)
    have HB4 := Lib.hid (HB3.out.trans (hbA.mono HB3.out.size))
    obtain ⟨⟨c0, c1, c2, c3, c4, c5, c6, c7, c8, c9⟩, _⟩ := ten_free hPA
    clear hbA hPA HB3 HLP3
    generalize w3.alloc (.cells #[.string pnm, .int .i64 pvl, .slice pa1 pn1 pk1, .slice pa2 pn2 pk2, .int .i64 pak, .int .i64 pxo, .int .i64 pxt, .string pxs, .int .i64 pxn, .slice pxa pxm pxc] 30) = w4 at *
    go_wp2_with fail
    with_reducible refine (may_any p _ w4 HLP4.out HWF.out).mono ?_
    rintro e w5 ⟨rfl, hb5⟩
    rw [HMAY.out]
    have HB5 := Lib.hid (HB4.out.trans (hb5.mono HB4.out.size))
    clear hb5 c0 c1 c2 c3 c4 c5 c6 c7 c8 c9
    go_wp2_with fail
    go_ret
    exact ⟨rfl, HB5.out⟩
  · have d8 : decide ((80 : Int) < (len : Int)) = true := by simp; omega
    have d8' : decide (80 < len) = true := by simp; omega
    go_wp2_with fail
    go_ret
    exact ⟨rfl, hb1⟩
end Go.Proofs.Ytlgnagmmljdkiab.Lx
