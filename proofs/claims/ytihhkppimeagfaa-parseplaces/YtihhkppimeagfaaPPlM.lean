/-
  Where a shown program's parts begin: plain words; and what count of layer 7's statements tells, as a contract.
-/
import Derived.Test.YtihhkppimeagfaaPMadeM
import Derived.Deep.QuietTactic
import Derived.BigQuiet
namespace Go.Proofs.Ytihhkppimeagfaa.P
open L (Tok)
set_option maxRecDepth 100000
set_option linter.unusedVariables false
set_option linter.unusedSimpArgs false
/-- Rising numbers below n. -/
def Up (q : List Nat) (n : Nat) : Prop := q.Pairwise (· < ·) ∧ ∀ i ∈ q, i < n
theorem Up.shift {q : List Nat} {n : Nat} (h : Up q n) (k : Nat) : Up (sh k q) (k + n) := by
  refine ⟨?_, fun i hi => ?_⟩
  · exact List.Pairwise.map (k + ·) (fun a b hab => by show k + a < k + b; omega) h.1
  · obtain ⟨j, hj, rfl⟩ := List.mem_map.1 hi
    have := h.2 j hj
    omega
theorem Up.mono {q : List Nat} {n m : Nat} (h : Up q n) (hn : n ≤ m) : Up q m := ⟨h.1, fun i hi => Nat.lt_of_lt_of_le (h.2 i hi) hn⟩
theorem Up.app {q q' : List Nat} {k m N : Nat} (h : Up q k) (h' : Up q' m) (hN : k + m ≤ N) : Up (q ++ sh k q') N := by
  have h2 := h'.shift k
  refine ⟨List.pairwise_append.2 ⟨h.1, h2.1, fun a ha b hb => ?_⟩, fun i hi => ?_⟩
  · obtain ⟨j, hj, rfl⟩ := List.mem_map.1 hb
    have := h.2 a ha
    omega
  · rcases List.mem_append.1 hi with hi | hi
    · have := h.2 i hi
      omega
    · have := h2.2 i hi
      omega
theorem up_zero {n : Nat} (h : 0 < n) : Up [0] n := ⟨List.pairwise_singleton _ _, fun i hi => by rw [List.mem_singleton.1 hi]; exact h⟩
theorem up_nil (n : Nat) : Up [] n := ⟨.nil, fun i hi => by cases hi⟩
theorem up_len : ∀ (q : List Nat) (m n : Nat), m ≤ n → q.Pairwise (· < ·) → (∀ i ∈ q, m ≤ i ∧ i < n) → q.length + m ≤ n
  | [], m, n, h, _, _ => by simpa using h
  | i :: q, m, n, h, hp, hq => by
    have hi := hq i (by simp)
    have hp' := List.pairwise_cons.1 hp
    have := up_len q (i + 1) n (by omega) hp'.2 (fun j hj => ⟨hp'.1 j hj, (hq j (by simp [hj])).2⟩)
    rw [List.length_cons]
    omega
theorem Up.len {q : List Nat} {n : Nat} (h : Up q n) : q.length ≤ n := up_len q 0 n (Nat.zero_le _) h.1 (fun i hi => ⟨Nat.zero_le _, h.2 i hi⟩)
theorem sh_len (k : Nat) (q : List Nat) : (sh k q).length = q.length := by simp [sh]
mutual
theorem TS.up {d : Nat} {s : ST} {t : List UInt8} {b : List Bo} {q : List Nat} (h : TS d s t b q) : q.length = Lx.ST.size s ∧ Up q b.length := by
  cases h with
  | set hr hx => exact ⟨by simp [Lx.ST.size, Lx.sizeSs], up_zero (by simp)⟩
  | load hm hr hl => exact ⟨by simp [Lx.ST.size, Lx.sizeSs], up_zero (by simp)⟩
  | store hm hl hx => exact ⟨by simp [Lx.ST.size, Lx.sizeSs], up_zero (by simp)⟩
  | add hm hr hl hx => exact ⟨by simp [Lx.ST.size, Lx.sizeSs], up_zero (by simp)⟩
  | cas hm hr hl hx hf => exact ⟨by simp [Lx.ST.size, Lx.sizeSs], up_zero (by simp)⟩
  | fence hm => exact ⟨by simp [Lx.ST.size, Lx.sizeSs], up_zero (by simp)⟩
  | @ifs _ e tx tt bx bt th qt hx ht =>
    obtain ⟨h1, h2⟩ := TSs.ups ht
    refine ⟨by simp [Lx.ST.size, Lx.sizeSs, sh_len, h1]; omega, ?_⟩
    exact (up_zero (n := bx.length + 2) (by omega)).app h2 (by simp; omega)
  | @ife _ e tx tt te bx bt be th el qt qe hx ht hne he =>
    obtain ⟨h1, h2⟩ := TSs.ups ht
    obtain ⟨h3, h4⟩ := TSs.ups he
    refine ⟨by simp [Lx.ST.size, sh_len, h1, h3]; omega, ?_⟩
    exact ((up_zero (n := bx.length + 2) (by omega)).app h2 (N := bx.length + bt.length + 5) (by omega)).app h4 (by simp; omega)
theorem TSs.ups {d : Nat} {l : List ST} {t : List UInt8} {b : List Bo} {q : List Nat} (h : TSs d l t b q) : q.length = Lx.sizeSs l ∧ Up q b.length := by
  cases h with
  | nil => exact ⟨rfl, up_nil _⟩
  | cons hs hl =>
    obtain ⟨h1, h2⟩ := TS.up hs
    obtain ⟨h3, h4⟩ := TSs.ups hl
    exact ⟨by simp [Lx.sizeSs, sh_len, h1, h3], h2.app h4 (by simp)⟩
end
theorem TI.up {cs : List (List UInt8 × Int)} {t : List UInt8} {b : List Bo} {q : List Nat} (h : TI cs t b q) : q.length = cs.length ∧ Up q b.length ∧ ∀ j ∈ q, b[j]? = some (wd [105, 110, 105, 116]) := by
  induction h with
  | nil => exact ⟨rfl, up_nil _, fun j hj => by cases hj⟩
  | @cons l n cs t b q hl hn h ih =>
    obtain ⟨h1, h2, h3⟩ := ih
    refine ⟨by simp [sh_len, h1], (up_zero (n := 3) (by omega)).app h2 (by simp; omega), fun j hj => ?_⟩
    rcases List.mem_cons.1 hj with rfl | hj
    · rfl
    · obtain ⟨i, hi, rfl⟩ := List.mem_map.1 hj
      have := h3 i hi
      rw [show 3 + i = i + 1 + 1 + 1 by omega]
      simpa using this
/-- Statements of all threads. -/
def cT : List (List ST) → Nat
  | [] => 0
  | l :: ls => Lx.sizeSs l + cT ls
theorem TT.up {ls : List (List ST)} {t : List UInt8} {b : List Bo} {q : List Nat} (h : TT ls t b q) : q.length = cT ls ∧ Up q b.length := by
  induction h with
  | nil => exact ⟨rfl, up_nil _⟩
  | @cons l ls tl t bl b ql q hl h ih =>
    obtain ⟨h1, h2⟩ := ih
    obtain ⟨h3, h4⟩ := hl.ups
    exact ⟨by simp [cT, sh_len, h1, h3], ((h4.shift 2).mono (m := bl.length + 3) (by omega)).app h2 (by simp; omega)⟩
theorem cT_take {ls : List (List ST)} {j : Nat} {l : List ST} (h : ls[j]? = some l) : cT (ls.take (j + 1)) = cT (ls.take j) + Lx.sizeSs l := by
  have key : ∀ a b : List (List ST), cT (a ++ b) = cT a + cT b := by
    intro a b
    induction a with
    | nil => simp [cT]
    | cons x a ih => simp only [List.cons_append, cT, ih]; omega
  rw [List.take_add_one, h, key]
  simp [cT]
theorem cT_le {ls : List (List ST)} (j : Nat) : cT (ls.take j) ≤ cT ls := by
  have key : ∀ a b : List (List ST), cT (a ++ b) = cT a + cT b := by
    intro a b
    induction a with
    | nil => simp [cT]
    | cons x a ih => simp only [List.cons_append, cT, ih]; omega
  conv => rhs; rw [← List.take_append_drop j ls, key]
  omega
/-- Where parts begin. -/
structure PlOk (t : List UInt8) (p : PG) (PL : List Nat) : Prop where
  len : PL.length = 2 + p.init.length + cT p.threads
  few : PL.length ≤ t.length
  in' : ∀ i, i < PL.length → PL.getD i 0 < t.length
  rise : ∀ i, i + 1 < PL.length → PL.getD i 0 < PL.getD (i + 1) 0
  head : [108, 105, 116, 109, 117, 115] <+: t.drop (PL.getD 0 0)
  inits : ∀ i, 1 ≤ i → i ≤ p.init.length → [105, 110, 105, 116] <+: t.drop (PL.getD i 0)
  last : [101, 120, 105, 115, 116, 115] <+: t.drop (PL.getD (PL.length - 1) 0) ∨ [102, 111, 114, 97, 108, 108] <+: t.drop (PL.getD (PL.length - 1) 0)
  mid : ∀ i, p.init.length < i → i + 1 < PL.length → 1 ≤ PL.getD i 0 ∧ t[PL.getD i 0 - 1]? = some 32
theorem here_at {us : List Tok} {E : Tok} {j : Nat} (h : j < us.length) : here ((us ++ [E]).drop j) = us[j].at' := by
  rw [List.drop_eq_getElem_cons (by rw [List.length_append]; omega), List.getElem_append_left h]
  rfl
theorem here_at' {us : List Tok} {j : Nat} (h : j < us.length) : here (us.drop j) = us[j].at' := by
  rw [List.drop_eq_getElem_cons h]
  rfl
end Go.Proofs.Ytihhkppimeagfaa.P
namespace Go.Proofs.Ytihhkppimeagfaa.Lx
open Go.RowKit
open L (Tok)
open P (EX CO ST PG TP TI TT TSs Bo Up PlOk cT plc sh here wd body)
set_option maxRecDepth 100000
set_option linter.unusedVariables false
set_option linter.unusedSimpArgs false
theorem tp_places {p : PG} {t : List UInt8} {b : List Bo} {q1 q2 q3 : List Nat} (h : TP p t b q1 q2 q3) (hs : (bs t).size ≤ 4096) : ∃ PL, parA (bs t) = .ok (p, PL) ∧ PlOk t p PL := by
  obtain ⟨us, _, _, hub, hin, hpar, hq⟩ := tp_lex h hs
  refine ⟨_, hpar, ?_⟩
  cases h with
  | @mk nm v k cs ls c ti tt tc bi bt bc qi qt hn hv hi ht hk hc =>
  obtain ⟨i1, i2, i3⟩ := hi.up
  obtain ⟨t1, t2⟩ := ht.up
  generalize hb : (wd [108, 105, 116, 109, 117, 115] :: wd nm :: wd [118, 97, 108, 117, 101, 115] :: P.nu v :: (bi ++ (bt ++ (wd (P.askW k) :: bc)))) = b at *
  generalize ((([108, 105, 116, 109, 117, 115] ++ [32]) ++ ((nm ++ [32]) ++ (([118, 97, 108, 117, 101, 115] ++ [32]) ++ (L.decL v ++ [10])))) ++ (ti ++ (tt ++ ((P.askW k ++ [32]) ++ (tc ++ [10]))))) = t at *
  have hbl : b.length = 5 + bi.length + bt.length + bc.length := by
    rw [← hb]
    simp
    omega
  have hul : us.length = b.length := by rw [← hub]; simp
  have hQ : Up (0 :: (sh 4 qi ++ (sh (4 + bi.length) qt ++ [4 + bi.length + bt.length]))) b.length := by
    have a1 : Up ([0] ++ sh 4 qi) (4 + bi.length) := (P.up_zero (n := 4) (by omega)).app i2 (Nat.le_refl _)
    have a2 := a1.app t2 (Nat.le_refl _)
    have a3 := a2.app (P.up_zero (n := 1) (by omega)) (N := b.length) (by omega)
    have e : ([0] ++ sh 4 qi) ++ sh (4 + bi.length) qt ++ sh (4 + bi.length + bt.length) [0] = 0 :: (sh 4 qi ++ (sh (4 + bi.length) qt ++ [4 + bi.length + bt.length])) := by simp [sh]
    rw [e] at a3
    exact a3
  have hQl : (0 :: (sh 4 qi ++ (sh (4 + bi.length) qt ++ [4 + bi.length + bt.length]))).length = 2 + cs.length + cT ls := by
    simp [P.sh_len, i1, t1]
    omega
  have hQm : ∀ i, cs.length < i → i + 1 < 2 + cs.length + cT ls → ∀ j, (0 :: (sh 4 qi ++ (sh (4 + bi.length) qt ++ [4 + bi.length + bt.length])))[i]? = some j → j ∈ sh (4 + bi.length) qt := by
    intro i h1 h2 j hj
    obtain ⟨i', rfl⟩ : ∃ i', i = i' + 1 := ⟨i - 1, by omega⟩
    rw [List.getElem?_cons_succ, List.getElem?_append_right (by rw [P.sh_len]; omega), List.getElem?_append_left (by rw [P.sh_len, P.sh_len]; omega)] at hj
    exact List.mem_of_getElem? hj
  have hQi : ∀ i, 1 ≤ i → i ≤ cs.length → ∀ j, (0 :: (sh 4 qi ++ (sh (4 + bi.length) qt ++ [4 + bi.length + bt.length])))[i]? = some j → b[j]? = some (wd [105, 110, 105, 116]) := by
    intro i h1 h2 j hj
    obtain ⟨i', rfl⟩ : ∃ i', i = i' + 1 := ⟨i - 1, by omega⟩
    rw [List.getElem?_cons_succ, List.getElem?_append_left (by rw [P.sh_len]; omega)] at hj
    obtain ⟨m, hm, rfl⟩ := List.mem_map.1 (List.mem_of_getElem? hj)
    have h3 := i3 m hm
    have h4 := i2.2 m hm
    rw [← hb, show 4 + m = m + 1 + 1 + 1 + 1 by omega]
    simp only [List.getElem?_cons_succ]
    rw [List.getElem?_append_left h4]
    exact h3
  have hQe : (0 :: (sh 4 qi ++ (sh (4 + bi.length) qt ++ [4 + bi.length + bt.length])))[2 + cs.length + cT ls - 1]? = some (4 + bi.length + bt.length) := by
    rw [show 2 + cs.length + cT ls - 1 = cs.length + cT ls + 1 by omega, List.getElem?_cons_succ, List.getElem?_append_right (by rw [P.sh_len]; omega), List.getElem?_append_right (by rw [P.sh_len, P.sh_len]; omega)]
    rw [P.sh_len, P.sh_len, i1, t1, show cs.length + cT ls - cs.length - cT ls = 0 by omega]
    rfl
  have hbe : b[4 + bi.length + bt.length]? = some (wd (P.askW k)) := by
    rw [← hb, show 4 + bi.length + bt.length = bi.length + bt.length + 1 + 1 + 1 + 1 by omega]
    simp only [List.getElem?_cons_succ]
    rw [List.getElem?_append_right (by omega), List.getElem?_append_right (by omega), show bi.length + bt.length - bi.length - bt.length = 0 by omega]
    rfl
  have hb0 : b[0]? = some (wd [108, 105, 116, 109, 117, 115]) := by rw [← hb]; rfl
  have hQ0 : (0 :: (sh 4 qi ++ (sh (4 + bi.length) qt ++ [4 + bi.length + bt.length])))[0]? = some 0 := rfl
  have hfew := hQ.len
  have hcnt := hin.count
  generalize (0 :: (sh 4 qi ++ (sh (4 + bi.length) qt ++ [4 + bi.length + bt.length]))) = Q at *
  have hPl : (plc Q (us ++ [⟨4, [], 0, t.length⟩])).length = Q.length := by simp [plc]
  have hat : ∀ i, i < Q.length → ∃ j, ∃ hj : j < us.length, Q[i]? = some j ∧ (plc Q (us ++ [⟨4, [], 0, t.length⟩])).getD i 0 = us[j].at' := by
    intro i hi
    have h1 : Q[i] < b.length := hQ.2 _ (List.getElem_mem hi)
    refine ⟨Q[i], by omega, List.getElem?_eq_getElem hi, ?_⟩
    rw [List.getD_eq_getElem?_getD, plc, List.getElem?_map, List.getElem?_eq_getElem hi]
    exact P.here_at (by omega)
  have hstand : ∀ j, ∀ hj : j < us.length, ∀ s, b[j]? = some (wd s) → s <+: t.drop us[j].at' := by
    intro j hj s hbj
    have h1 : us[j].text = s := by
      rw [← hub, List.getElem?_map, List.getElem?_eq_getElem hj] at hbj
      have := Option.some.inj hbj
      simp only [body, wd, Prod.mk.injEq] at this
      exact this.2.1
    have h2 := (hin.all us[j] (List.getElem_mem hj)).stands
    rw [h1, Nat.sub_zero] at h2
    exact h2
  have hlt : ∀ j, ∀ hj : j < us.length, us[j].at' < t.length := by
    intro j hj
    have h2 := hin.all us[j] (List.getElem_mem hj)
    have h3 := h2.to
    have h4 : 0 < us[j].text.length := List.length_pos_iff.2 (L.piece_ne h2.piece)
    omega
  refine ⟨by rw [hPl, hQl], by rw [hPl]; omega, fun i hi => ?_, fun i hi => ?_, ?_, fun i h1 h2 => ?_, ?_, fun i h1 h2 => ?_⟩
  · obtain ⟨j, hj, _, e⟩ := hat i (by rw [← hPl]; exact hi)
    rw [e]
    exact hlt j hj
  · rw [hPl] at hi
    obtain ⟨j, hj, e1, e⟩ := hat i (by omega)
    obtain ⟨j', hj', e1', e'⟩ := hat (i + 1) hi
    rw [e, e']
    have h1 := List.pairwise_iff_getElem.1 hQ.1 i (i + 1) (by omega) hi (by omega)
    rw [List.getElem?_eq_getElem (by omega)] at e1 e1'
    have e2 := Option.some.inj e1
    have e2' := Option.some.inj e1'
    rw [e2, e2'] at h1
    exact List.pairwise_iff_getElem.1 hin.rise j j' hj hj' h1
  · obtain ⟨j, hj, e1, e⟩ := hat 0 (by omega)
    rw [e]
    rw [hQ0] at e1
    cases e1
    exact hstand 0 hj _ hb0
  · simp only at h2
    obtain ⟨j, hj, e1, e⟩ := hat i (by omega)
    rw [e]
    exact hstand j hj _ (hQi i h1 h2 j e1)
  · rw [hPl, hQl]
    obtain ⟨j, hj, e1, e⟩ := hat (2 + cs.length + cT ls - 1) (by omega)
    rw [e]
    rw [hQe] at e1
    cases e1
    have := hstand _ hj _ hbe
    rcases hk with rfl | rfl
    · exact .inl this
    · exact .inr this
  · simp only at h1
    rw [hPl, hQl] at h2
    obtain ⟨j, hj, e1, e⟩ := hat i (by omega)
    obtain ⟨_, off, a2, a3, a4, a5⟩ := hq j (hQm i h1 h2 j e1)
    rw [P.here_at' hj] at a4
    rw [e, a4]
    exact ⟨a2, a5⟩
/-! ### count -/
theorem sizeSs_take {l : List ST} {j : Nat} {s : ST} (h : l[j]? = some s) : sizeSs (l.take (j + 1)) = sizeSs (l.take j) + ST.size s := by
  have key : ∀ a b : List ST, sizeSs (a ++ b) = sizeSs a + sizeSs b := by
    intro a b
    induction a with
    | nil => simp [sizeSs]
    | cons x a ih => simp only [List.cons_append, sizeSs, ih]; omega
  rw [List.take_add_one, h, key]
  simp [sizeSs]
theorem sizeSs_le {l : List ST} (j : Nat) : sizeSs (l.take j) ≤ sizeSs l := by
  have key : ∀ a b : List ST, sizeSs (a ++ b) = sizeSs a + sizeSs b := by
    intro a b
    induction a with
    | nil => simp [sizeSs]
    | cons x a ih => simp only [List.cons_append, sizeSs, ih]; omega
  conv => rhs; rw [← List.take_append_drop j l, key]
  omega
def CntTo (n : Nat) (w : World) (e : Ending) (w' : World) : Prop := e = .returned (.int .i64 ((n : Nat) : Int)) ∧ ∃ m, w' = w.drewN m
theorem RowS.drewN {Q : Nat → Prop} {w : World} {a : Option Addr} {es : List ST} (h : RowS Q w a es) (n : Nat) : RowS Q (w.drewN n) a es := h.keep (fun g hg hl => rfl)
set_option maxHeartbeats 3200000 in
theorem count_row : ∀ (N : Nat) (es : List ST), sizeSs es < N → es.length ≤ maxLen → sizeSs es ≤ 1000000000000 → ∀ (Q : Nat → Prop) (a : Option Addr) (ca : Nat) (w : World), RowS Q w a es → Calls Try.prog 13 #[.slice a es.length ca] w (CntTo (sizeSs es) w)
  | 0, es, hN, hm, hz, Q, a, ca, w, ha => by
    omega
  | N + 1, es, hN, hm, hz, Q, a, ca, w, ha => by
    have IH := Lib.hid (fun es (he : sizeSs es < N) => count_row N es he)
    have HSZ := Lib.hid (show ∀ i e, es[i]? = some e → ST.size e ≤ N by
      intro i e he
      have h1 := sizes_mem es i e he
      omega)
    have HZ := Lib.hid hz
    have HA := Lib.hid ha
    unfold maxLen at hm
    clear ha hN hz
    go_enter Try.func13, Try.ntmps13
    go_wp2_with fail
    go_loopw [3, 4] (fun nv t wr => ∃ (j : Nat) (n : Nat), t = .int .i64 j ∧ j ≤ es.length ∧ nv = .int .i64 ((sizeSs (es.take j) : Nat) : Int) ∧ wr = w.drewN n) (fun _ t _ => es.length - (intOf t).toNat)
    case atStart => exact ⟨0, 0, rfl, Nat.zero_le _, rfl, rfl⟩
    case round =>
      obtain ⟨j, n, rfl, hj, rfl, hw⟩ := hrel
      have HW := Lib.hid hw
      clear hw
      by_cases hlt : j < es.length
      · have hra : RowS Q wr a es := by
          rw [HW.out]
          exact HA.out.drewN n
        rcases hra with hz | ⟨ga, oa, hga, _, hla⟩
        · rw [hz] at hlt
          simp at hlt
        obtain ⟨x, a0, a1, a2, a3, a4, a5, a6, hx, ha0, ha1, ha2, ha3, ha4, ha5, ha6, hxa⟩ := LSs.at es hla j hlt
        subst hga
        have HTK := Lib.hid (sizeSs_take hx)
        have HLE := Lib.hid (sizeSs_le (l := es) (j + 1))
        have HS := Lib.hid (HSZ.out j _ hx)
        obtain ⟨kd, md, rg, lc, ar, th, el⟩ := x
        have hsx : ST.size (.mk kd md rg lc ar th el) = 1 + sizeSs th + sizeSs el := by unfold ST.size; rfl
        rw [hsx] at HTK HS
        unfold LS at hxa
        obtain ⟨aa, caa, at', cat, ae, cae, hva, m1, m2, m3, r1, r2, r3⟩ := hxa
        injection hva with hva
        simp only [Array.mk.injEq, List.cons.injEq, and_true] at hva
        obtain ⟨rfl, rfl, rfl, rfl, rfl, rfl, rfl⟩ := hva
        have hbt : sizeSs (es.take j) + (1 + sizeSs th + sizeSs el) ≤ 1000000000000 := by
          have h1 := HLE.out
          have h2 := HZ.out
          rw [HTK.out] at h1
          omega
        have HC1 := Lib.hid (fun k => IH.out th (by have := HS.out; omega) m2 (by omega) Q at' cat (wr.drewN k) (show RowS Q (wr.drewN k) at' th from RowS.drewN r2 k))
        have HC2 := Lib.hid (fun k => IH.out el (by have := HS.out; omega) m3 (by omega) Q ae cae (wr.drewN k) (show RowS Q (wr.drewN k) ae el from RowS.drewN r3 k))
        have HTX := Lib.hid (show ((sizeSs (es.take j) : Nat) : Int) + 1 + ((sizeSs th : Nat) : Int) + ((sizeSs el : Nat) : Int) = ((sizeSs (es.take (j + 1)) : Nat) : Int) by
          rw [HTK.out]
          omega)
        clear hla ha0 ha1 ha2 ha3 ha4 hx r1 r2 r3 m1 m2 m3 hsx
        generalize sizeSs (es.take j) = S at *
        generalize sizeSs th = S1 at *
        generalize sizeSs el = S2 at *
        have p1 : (0 : Int) ≤ (j : Int) := by omega
        have p2 : (j : Int) < (es.length : Int) := by omega
        have x1 : IntKind.i64.wrap ((S : Int) + 1) = (S : Int) + 1 := IntWalk.i64_in _ (by omega)
        have x2 : IntKind.i64.wrap ((S : Int) + 1 + (S1 : Int)) = (S : Int) + 1 + (S1 : Int) := IntWalk.i64_in _ (by omega)
        have x3 : IntKind.i64.wrap ((S : Int) + 1 + (S1 : Int) + (S2 : Int)) = (S : Int) + 1 + (S1 : Int) + (S2 : Int) := IntWalk.i64_in _ (by omega)
        clear hbt
        go_wp2_with fail
        go_quiet (first | (go_at_call 13; first | (with_reducible exact Calls.quiet_of (HC1.out _)) | (with_reducible exact Calls.quiet_of (HC2.out _))))
        clear x1 x2 x3
        go_wp2_with fail
        go_roundw
        case rel => exact ⟨j + 1, n + nq, by go_num, by omega, by rw [HTX.out], by rw [HW.out, World.drewN_drewN]⟩
        case measure => simp [intOf]; omega
      · have hd1 : decide (j < es.length) = false := by simpa using hlt
        have hd2 : decide ((j : Int) < (es.length : Int)) = false := by simpa using hlt
        obtain rfl : j = es.length := by omega
        rw [List.take_length]
        go_wp2_with fail
        go_ret
        exact ⟨rfl, n, HW.out⟩
end Go.Proofs.Ytihhkppimeagfaa.Lx
