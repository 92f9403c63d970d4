/-
  PLAIN MATHEMATICS: programs that are made may be. It proves nothing of Go.
-/
import Derived.Test.YtlgnagmmljdkiabCKD
import Derived.Test.YtlgnagmmljdkiabCKE
import Derived.Test.YtlgnagmmljdkiabMMath
namespace Go.Proofs.Ytlgnagmmljdkiab.P
set_option maxRecDepth 100000
set_option linter.unusedVariables false
set_option linter.unusedSimpArgs false
def Bs4 : Nms' := [[97], [98], [99], [100]]
def locsK (k : Nat) : Nms' := (List.range k).map fun i => [locB i]
structure Okr (rs : Nms') : Prop where
  nd : rs.Nodup
  sub : ∀ s ∈ rs, s ∈ Bs4
theorem okr_nil : Okr [] := ⟨List.nodup_nil, fun s h => by cases h⟩
theorem nodup_le : ∀ {rs L : Nms'}, rs.Nodup → (∀ s ∈ rs, s ∈ L) → rs.length ≤ L.length
  | [], L, _, _ => Nat.zero_le _
  | x :: rs, L, hn, hs => by
    rw [List.nodup_cons] at hn
    have hx := hs x (.head _)
    have h1 := nodup_le (rs := rs) (L := L.erase x) hn.2 (fun s h => (List.mem_erase_of_ne (by rintro rfl; exact hn.1 h)).2 (hs s (.tail _ h)))
    rw [List.length_erase_of_mem hx] at h1
    have h2 := List.length_pos_of_mem hx
    rw [List.length_cons]
    omega
theorem Okr.few {rs : Nms'} (h : Okr rs) {s : List UInt8} (hs : s ∈ Bs4) (hn : s ∉ rs) : rs.length < 4 := by
  have h1 := nodup_le (rs := s :: rs) (L := Bs4) (List.nodup_cons.2 ⟨hn, h.nd⟩) (fun x hx => by
    rcases List.mem_cons.1 hx with rfl | hx
    · exact hs
    · exact h.sub x hx)
  have h2 : Bs4.length = 4 := rfl
  rw [List.length_cons] at h1
  omega
theorem Okr.wth {rs : Nms'} (h : Okr rs) {s : List UInt8} (hs : s ∈ Bs4) : Okr (wth rs s) := by
  unfold P.wth
  by_cases hin : s ∈ rs
  · rw [if_pos hin]
    exact h
  · rw [if_neg hin]
    refine ⟨?_, fun x hx => ?_⟩
    · unfold List.Nodup
      rw [List.pairwise_append]
      refine ⟨h.nd, List.pairwise_singleton _ _, fun a ha b hb => ?_⟩
      rw [List.mem_singleton.1 hb]
      exact fun e => hin (e ▸ ha)
    · rcases List.mem_append.1 hx with hx | hx
      · exact h.sub x hx
      · rw [List.mem_singleton.1 hx]
        exact hs
theorem mem_wth {rs : Nms'} {s x : List UInt8} (h : x ∈ rs) : x ∈ wth rs s := by
  unfold wth
  split
  · exact h
  · exact List.mem_append_left _ h
theorem mem_wth_self {rs : Nms'} {s : List UInt8} : s ∈ wth rs s := by
  unfold wth
  split
  · assumption
  · simp
theorem wth_sub {rs rs' : Nms'} {s : List UInt8} (h : ∀ x ∈ rs, x ∈ rs') : ∀ x ∈ wth rs s, x ∈ wth rs' s := by
  intro x hx
  unfold wth at hx
  split at hx
  · exact mem_wth (h x hx)
  · rcases List.mem_append.1 hx with hx | hx
    · exact mem_wth (h x hx)
    · rw [List.mem_singleton.1 hx]
      exact mem_wth_self
theorem lt4 {i : Nat} (h : i < 4) : i = 0 ∨ i = 1 ∨ i = 2 ∨ i = 3 := by omega
theorem reg_in {i : Nat} (h : i < 4) : [regB i] ∈ Bs4 := by
  rcases lt4 h with rfl | rfl | rfl | rfl <;> decide
theorem reg_name {i : Nat} (h : i < 4) : Lx.nameB [regB i] = true := by
  rcases lt4 h with rfl | rfl | rfl | rfl <;> decide +kernel
theorem loc_name {i : Nat} (h : i < 4) : Lx.nameB [locB i] = true := by
  rcases lt4 h with rfl | rfl | rfl | rfl <;> decide +kernel
theorem loc_in {j k : Nat} (h : j < k) : [locB j] ∈ locsK k := List.mem_map.2 ⟨j, List.mem_range.2 h, rfl⟩
theorem reg_not {i k : Nat} (hi : i < 4) (hk : k ≤ 4) : [regB i] ∉ locsK k := by
  intro h
  obtain ⟨j, hj, e⟩ := List.mem_map.1 h
  have hj4 : j < 4 := by
    have := List.mem_range.1 hj
    omega
  rcases lt4 hi with rfl | rfl | rfl | rfl <;> rcases lt4 hj4 with rfl | rfl | rfl | rfl <;> exact absurd e (by decide)
theorem loc_not {j : Nat} (hj : j < 4) : [locB j] ∉ locsK j := by
  rcases lt4 hj with rfl | rfl | rfl | rfl <;> decide
theorem reg_ok {k : Nat} {regs : Nms'} {kd : Int} {i : Nat} (hs : setsB kd = true) (hi : i < 4) (hk : k ≤ 4) (ho : Okr regs) : regE (locsK k) regs kd [regB i] = 0 := by
  unfold regE
  rw [if_pos hs, if_neg (by rintro (h | h); rw [reg_name hi] at h; cases h; exact reg_not hi hk h)]
  by_cases hin : [regB i] ∈ regs
  · rw [if_pos (.inl hin)]
  · rw [if_pos (.inr (ho.few (reg_in hi) hin))]
theorem reg_none {k : Nat} {regs : Nms'} {kd : Int} (hs : setsB kd = false) : regE (locsK k) regs kd [] = 0 := by
  unfold regE
  rw [if_neg (by rw [hs]; decide), if_pos rfl]
theorem loc_ok {k j : Nat} {kd : Int} (hs : accB kd = true) (hj : j < k) : locE (locsK k) kd [locB j] = 0 := by
  unfold locE
  rw [if_pos hs, if_pos (loc_in hj)]
theorem loc_none {k : Nat} {kd : Int} (hs : accB kd = false) : locE (locsK k) kd [] = 0 := by
  unfold locE
  rw [if_neg (by rw [hs]; decide), if_pos rfl]
theorem nodeE_is {vals : Int} {regs : Nms'} {o n : Int} {s : List UInt8} {ks : List EX} : nodeE vals regs (.mk o n s ks) = if o = 1 then (if ks.length = 0 ∧ s = [] ∧ 0 ≤ n ∧ n < vals then 0 else 1) else if o = 2 then (if 0 < ks.length ∨ n ≠ 0 then 1 else if s ∈ regs then 0 else 4) else if 3 ≤ o ∧ o ≤ 6 then (if ks.length = 2 ∧ s = [] ∧ n = 0 then 0 else 1) else 1 := rfl
theorem nodeC_is {vals : Int} {locs : Nms'} {ts : List (List ST)} {o t n : Int} {s : List UInt8} {ks : List CO} : nodeC vals locs ts (.mk o t s n ks) = if o = 1 then (if 0 < ks.length ∨ t ≠ 0 then 1 else if s ∈ locs then (if 0 ≤ n ∧ n < vals then 0 else 1) else 4) else if o = 2 then (if 0 < ks.length ∨ t < 0 ∨ (ts.length : Int) ≤ t then 1 else if s ∈ regsL [] (ts.getD t.toNat []) then (if 0 ≤ n ∧ n < vals then 0 else 1) else 4) else if o = 3 then (if ks.length = 1 ∧ t = 0 ∧ s = [] ∧ n = 0 then 0 else 1) else if o = 4 ∨ o = 5 then (if ks.length = 2 ∧ t = 0 ∧ s = [] ∧ n = 0 then 0 else 1) else 1 := rfl
theorem sgn_op {op : Int} {s : List UInt8} (h : Sign2 op s) : 3 ≤ op ∧ op ≤ 6 := by
  cases h <;> omega
theorem MX.node {v : Nat} {rs regs : Nms'} {d : Nat} {e : EX} (h : MX v rs d e) (hs : ∀ s ∈ rs, s ∈ regs) : eachX (nodeE v regs) e = 0 ∧ dpX e ≤ d + 1 := by
  induction h with
  | @num d n hn =>
    constructor
    · rw [eachX, eachXs]
      rw [nodeE_is, if_pos rfl, if_pos ⟨rfl, rfl, by omega, by omega⟩]
      rfl
    · rw [dpX, dpXs]
      omega
  | @reg d s hm =>
    constructor
    · rw [eachX, eachXs]
      rw [nodeE_is, if_neg (by decide), if_pos rfl, if_neg (by simp), if_pos (hs s hm)]
      rfl
    · rw [dpX, dpXs]
      omega
  | @bin d op s a b ho ha hb iha ihb =>
    have hop := sgn_op ho
    constructor
    · rw [eachX, eachXs, eachXs, eachXs, iha.1, ihb.1]
      rw [nodeE_is, if_neg (by omega), if_neg (by omega), if_pos hop, if_pos ⟨rfl, rfl, rfl⟩]
      rfl
    · rw [dpX, dpXs, dpXs, dpXs]
      omega
theorem MX.within {v : Nat} {rs regs : Nms'} {d : Nat} {e : EX} (h : MX v rs d e) (hs : ∀ s ∈ rs, s ∈ regs) (hd : d ≤ 5) : withinX (nodeE v regs) e = 0 := by
  obtain ⟨h1, h2⟩ := h.node hs
  unfold withinX
  rw [if_neg (by omega), h1]
theorem args_one {f : EX → Nat} {e : EX} (h : withinX f e = 0) : argsE f [e] = 0 := by
  rw [argsE, argsE, h]
  rfl
theorem args_two {f : EX → Nat} {e e' : EX} (h : withinX f e = 0) (h' : withinX f e' = 0) : argsE f [e, e'] = 0 := by
  rw [argsE, argsE, argsE, h, h']
  rfl
theorem stE_zero {vals : Int} {locs regs : Nms'} {n ifs : Nat} {k m : Int} {r l : List UInt8} {a : List EX} {th el : List ST} (h0 : n ≤ 16) (h1 : ifs ≤ 6) (hk : 1 ≤ k ∧ k ≤ 7) (hm : modeB k m = true) (ha : a.length = argsN k) (h7 : k = 7 ∨ (th = [] ∧ el = [])) (hr : regE locs regs k r = 0) (hl : locE locs k l = 0) (hx : argsE (nodeE vals regs) a = 0) : stE vals locs regs n ifs (.mk k m r l a th el) = 0 := by
  have g0 : ¬ (16 < n ∨ 6 < ifs) := by omega
  have g1 : ¬ (¬ (1 ≤ k ∧ k ≤ 7) ∨ modeB k m = false ∨ a.length ≠ argsN k ∨ (k ≠ 7 ∧ 0 < th.length + el.length)) := by
    rintro (h | h | h | h)
    · exact h hk
    · rw [hm] at h
      cases h
    · exact h ha
    · rcases h7 with h7 | ⟨rfl, rfl⟩
      · exact h.1 h7
      · simp at h
  unfold stE
  simp only [if_neg g0, if_neg g1]
  rw [hr, hl, hx]
  rfl
theorem blkL_app {vals : Int} {locs : Nms'} {ifs : Nat} : ∀ {l1 l2 : List ST} {c c1 : Wk3}, blkL vals locs ifs l1 c = .ok c1 → blkL vals locs ifs (l1 ++ l2) c = blkL vals locs ifs l2 c1
  | [], l2, c, c1, h => by
    rw [blkL] at h
    cases h
    rfl
  | s :: l1, l2, c, c1, h => by
    rw [List.cons_append, blkL]
    rw [blkL] at h
    cases hs : blkS vals locs ifs s c with
    | error e =>
      rw [hs] at h
      cases h
    | ok c2 =>
      rw [hs] at h
      exact blkL_app (show blkL vals locs ifs l1 c2 = .ok c1 from h)
theorem blkL_one {vals : Int} {locs : Nms'} {ifs : Nat} {s : ST} {c c1 : Wk3} (h : blkS vals locs ifs s c = .ok c1) : blkL vals locs ifs [s] c = .ok c1 := by
  rw [blkL, h]
  show blkL vals locs ifs [] c1 = _
  rw [blkL]
theorem cntL_app (l1 l2 : List ST) : cntL (l1 ++ l2) = cntL l1 + cntL l2 := by
  induction l1 with
  | nil =>
    rw [List.nil_append, show cntL [] = 0 by rw [cntL]]
    omega
  | cons s l1 ih =>
    rw [List.cons_append, cntL, cntL, ih]
    omega
/-- What a walk leaves of the registers. -/
def Good (r : Nms') (c c' : Wk3) : Prop := (∀ x ∈ r, x ∈ c'.regs) ∧ Okr c'.regs ∧ (∀ x ∈ c.regs, x ∈ c'.regs)
theorem flat_ok {v k : Nat} {ifs : Nat} {kd m : Int} {rg lc : List UInt8} {a : List EX} {c : Wk3} (h : stE v (locsK k) c.regs (c.n + 1) ifs (.mk kd m rg lc a [] []) = 0) : blkS v (locsK k) ifs (.mk kd m rg lc a [] []) c = .ok ⟨c.part + 1, if setsB kd = true then wth c.regs rg else c.regs, c.n + 1⟩ := by
  rw [blkS_el h (show blkL v (locsK k) (ifs + 1) [] _ = .ok _ by rw [blkL]), blkL]
theorem M0.walk {v k : Nat} (hk : k ≤ 4) {rs r : Nms'} {s : ST} (h : M0 v k rs s r) {ifs : Nat} {c : Wk3} (hi : ifs ≤ 6) (hs : ∀ x ∈ rs, x ∈ c.regs) (ho : Okr c.regs) (hn : c.n + 1 ≤ 16) : ∃ c', blkS v (locsK k) ifs s c = .ok c' ∧ Good r c c' := by
  cases h with
  | @load m i j _ hm hi4 hj =>
    have h0 := stE_zero (vals := v) (locs := locsK k) (regs := c.regs) (k := 2) (m := m) (a := []) (th := []) (el := []) hn hi (by decide) (by rcases hm with rfl | rfl | rfl <;> decide) rfl (.inr ⟨rfl, rfl⟩) (reg_ok (by decide) hi4 hk ho) (loc_ok (by decide) hj) (by rw [argsE])
    exact ⟨_, flat_ok h0, wth_sub hs, ho.wth (reg_in hi4), fun x hx => mem_wth hx⟩
  | @store m j _ e hm hj he =>
    have h0 := stE_zero (vals := v) (locs := locsK k) (regs := c.regs) (k := 3) (m := m) (a := [e]) (th := []) (el := []) hn hi (by decide) (by rcases hm with rfl | rfl | rfl <;> decide) rfl (.inr ⟨rfl, rfl⟩) (reg_none (by decide)) (loc_ok (by decide) hj) (args_one (he.within hs (by omega)))
    exact ⟨_, flat_ok h0, hs, ho, fun x hx => hx⟩
  | @add m i j _ e hm hi4 hj he =>
    have h0 := stE_zero (vals := v) (locs := locsK k) (regs := c.regs) (k := 4) (m := m) (a := [e]) (th := []) (el := []) hn hi (by decide) (by
      rcases (show m = 0 ∨ m = 1 ∨ m = 2 ∨ m = 3 ∨ m = 4 by omega) with rfl | rfl | rfl | rfl | rfl <;> decide) rfl (.inr ⟨rfl, rfl⟩) (reg_ok (by decide) hi4 hk ho) (loc_ok (by decide) hj) (args_one (he.within hs (by omega)))
    exact ⟨_, flat_ok h0, wth_sub hs, ho.wth (reg_in hi4), fun x hx => mem_wth hx⟩
  | @cas m i j _ e f hm hi4 hj he hf =>
    have h0 := stE_zero (vals := v) (locs := locsK k) (regs := c.regs) (k := 5) (m := m) (a := [e, f]) (th := []) (el := []) hn hi (by decide) (by
      rcases (show m = 0 ∨ m = 1 ∨ m = 2 ∨ m = 3 ∨ m = 4 by omega) with rfl | rfl | rfl | rfl | rfl <;> decide) rfl (.inr ⟨rfl, rfl⟩) (reg_ok (by decide) hi4 hk ho) (loc_ok (by decide) hj) (args_two (he.within hs (by omega)) (hf.within hs (by omega)))
    exact ⟨_, flat_ok h0, wth_sub hs, ho.wth (reg_in hi4), fun x hx => mem_wth hx⟩
  | @fence m _ hm hm5 =>
    have h0 := stE_zero (vals := v) (locs := locsK k) (regs := c.regs) (k := 6) (m := m) (a := []) (th := []) (el := []) hn hi (by decide) (by
      rcases (show m = 1 ∨ m = 2 ∨ m = 3 ∨ m = 4 by omega) with rfl | rfl | rfl | rfl <;> decide) rfl (.inr ⟨rfl, rfl⟩) (reg_none (by decide)) (loc_none (by decide)) (by rw [argsE])
    exact ⟨_, flat_ok h0, hs, ho, fun x hx => hx⟩
  | @set i _ e hi4 he =>
    have h0 := stE_zero (vals := v) (locs := locsK k) (regs := c.regs) (k := 1) (m := 0) (a := [e]) (th := []) (el := []) hn hi (by decide) (by decide) rfl (.inr ⟨rfl, rfl⟩) (reg_ok (by decide) hi4 hk ho) (loc_none (by decide)) (args_one (he.within hs (by omega)))
    exact ⟨_, flat_ok h0, wth_sub hs, ho.wth (reg_in hi4), fun x hx => mem_wth hx⟩
theorem M0.cnt {v k : Nat} {rs r : Nms'} {s : ST} (h : M0 v k rs s r) : cntS s = 1 := by
  have h0 : cntL [] = 0 := by rw [cntL]
  cases h <;> rw [cntS, h0]
/-- What holds of each holds of a row. -/
theorem Sq.walk {v k : Nat} {R : Nms' → ST → Nms' → Prop} {ifs : Nat} (hR : ∀ rs s r, R rs s r → ∀ c : Wk3, (∀ x ∈ rs, x ∈ c.regs) → Okr c.regs → c.n + cntS s ≤ 16 → ∃ c', blkS v (locsK k) ifs s c = .ok c' ∧ Good r c c') {rs r : Nms'} {l : List ST} (h : Sq R rs l r) : ∀ c : Wk3, (∀ x ∈ rs, x ∈ c.regs) → Okr c.regs → c.n + cntL l ≤ 16 → ∃ c', blkL v (locsK k) ifs l c = .ok c' ∧ Good r c c' := by
  induction h with
  | nil =>
    intro c hs ho _
    exact ⟨c, by rw [blkL], hs, ho, fun x hx => hx⟩
  | @snoc r1 r2 l s hl hs1 ih =>
    intro c hs ho hn
    have h1 : cntL [s] = cntS s := by
      rw [cntL, show cntL [] = 0 by rw [cntL]]
      omega
    rw [cntL_app, h1] at hn
    obtain ⟨c1, e1, g1, g2, g3⟩ := ih c hs ho (by omega)
    have hn1 := (blkL_inv _ _ _ _ e1).2.1
    obtain ⟨c2, e2, k1, k2, k3⟩ := hR _ _ _ hs1 c1 g1 g2 (by omega)
    exact ⟨c2, by rw [blkL_app e1, blkL_one e2], k1, k2, fun x hx => k3 x (g3 x hx)⟩
theorem MS.walk {v k : Nat} (hk : k ≤ 4) : ∀ (d : Nat) (rs : Nms') (s : ST) (r : Nms'), MS v k d rs s r → ∀ (ifs : Nat) (c : Wk3), ifs + d ≤ 6 → (∀ x ∈ rs, x ∈ c.regs) → Okr c.regs → c.n + cntS s ≤ 16 → ∃ c', blkS v (locsK k) ifs s c = .ok c' ∧ Good r c c'
  | 0, rs, s, r, h, ifs, c, hi, hs, ho, hn => by
    have h0 : M0 v k rs s r := h
    rw [h0.cnt] at hn
    exact h0.walk hk (by omega) hs ho hn
  | d + 1, rs, s, r, h, ifs, c, hi, hs, ho, hn => by
    rcases h with h | ⟨rfl, e, th, el, r1, r2, rfl, he, hth, hlt, hel, hle⟩
    · rw [h.cnt] at hn
      exact h.walk hk (by omega) hs ho hn
    · rw [cntS] at hn
      have h0 := stE_zero (vals := v) (locs := locsK k) (regs := c.regs) (n := c.n + 1) (ifs := ifs) (k := 7) (m := 0) (a := [e]) (th := th) (el := el) (by omega) (by omega) (by decide) (by decide) rfl (.inl rfl) (reg_none (by decide)) (loc_none (by decide)) (args_one (he.within hs (by omega)))
      have IH := fun rs s r (h : MS v k d rs s r) c => MS.walk hk d rs s r h (ifs + 1) c (by omega)
      obtain ⟨c1, e1, g1, g2, g3⟩ := hth.walk (ifs := ifs + 1) IH ⟨c.part + 1, c.regs, c.n + 1⟩ hs ho (by simp only; omega)
      have hn1 := (blkL_inv _ _ _ _ e1).2.1
      simp only at hn1 g3
      obtain ⟨c2, e2, k1, k2, k3⟩ := hel.walk (ifs := ifs + 1) IH c1 (fun x hx => g3 x (hs x hx)) g2 (by omega)
      refine ⟨c2, ?_, fun x hx => k3 x (g3 x (hs x hx)), k2, fun x hx => k3 x (g3 x hx)⟩
      rw [blkS_el h0 (show blkL v (locsK k) (ifs + 1) th ⟨c.part + 1, if setsB 7 = true then wth c.regs [] else c.regs, c.n + 1⟩ = .ok c1 from e1)]
      exact e2
theorem Sq.cnt {R : Nms' → ST → Nms' → Prop} {b : Nat} (hR : ∀ rs s r, R rs s r → cntS s ≤ b) {rs r : Nms'} {l : List ST} (h : Sq R rs l r) : cntL l ≤ l.length * b := by
  induction h with
  | nil =>
    rw [cntL]
    omega
  | @snoc r1 r2 l s hl hs ih =>
    have h1 : cntL [s] = cntS s := by
      rw [cntL, show cntL [] = 0 by rw [cntL]]
      omega
    have h2 := hR _ _ _ hs
    rw [cntL_app, h1, List.length_append, List.length_singleton, Nat.add_mul, Nat.one_mul]
    omega
theorem MS.cnt1 {v k : Nat} {rs r : Nms'} {s : ST} (h : MS v k 1 rs s r) : cntS s ≤ 3 := by
  rcases h with h | ⟨rfl, e, th, el, r1, r2, rfl, he, hth, hlt, hel, hle⟩
  · rw [h.cnt]
    omega
  · have h1 := hth.cnt (b := 1) (fun _ _ _ h => by have h' : M0 v k _ _ _ := h; rw [h'.cnt]; omega)
    have h2 := hel.cnt (b := 1) (fun _ _ _ h => by have h' : M0 v k _ _ _ := h; rw [h'.cnt]; omega)
    rw [cntS]
    omega
theorem thread_walk {v k : Nat} (hk : k ≤ 4) {l : List ST} {r : Nms'} (h : MSs v k 1 [] l r) (hl : l.length ≤ 4) (p : Nat) : (∃ c, blkL v (locsK k) 0 l ⟨p, [], 0⟩ = .ok c) ∧ (∀ x ∈ r, x ∈ regsL [] l) ∧ cntL l ≤ 12 := by
  have hc := Sq.cnt (b := 3) (fun _ _ _ h => MS.cnt1 h) h
  obtain ⟨c, e, g1, g2, g3⟩ := Sq.walk (ifs := 0) (fun rs s r (h : MS v k 1 rs s r) c => MS.walk hk 1 rs s r h 0 c (by omega)) h ⟨p, [], 0⟩ (fun x hx => by cases hx) okr_nil (by simp only; omega)
  have h3 := (blkL_inv _ _ _ _ e).2.2
  exact ⟨⟨c, e⟩, fun x hx => by rw [← h3]; exact g1 x hx, by omega⟩
theorem thrL_app {vals : Int} {locs : Nms'} : ∀ {l1 l2 : List (List ST)} {p p1 : Nat}, thrL vals locs l1 p = .ok p1 → thrL vals locs (l1 ++ l2) p = thrL vals locs l2 p1
  | [], l2, p, p1, h => by
    rw [thrL] at h
    cases h
    rfl
  | s :: l1, l2, p, p1, h => by
    rw [List.cons_append, thrL]
    rw [thrL] at h
    cases hs : blkL vals locs 0 s ⟨p, [], 0⟩ with
    | error e =>
      rw [hs] at h
      cases h
    | ok c2 =>
      rw [hs] at h
      exact thrL_app (show thrL vals locs l1 c2.part = .ok p1 from h)
theorem MT.walk {v k : Nat} (hk : k ≤ 4) {ts : List (List ST)} {rg : List Nms'} (h : MT v k 4 1 ts rg) (p : Nat) : (∃ n, thrL v (locsK k) ts p = .ok n) ∧ (∀ l ∈ ts, cntL l ≤ 12) ∧ (∀ (t : Nat) (rs : Nms'), rg[t]? = some rs → ∃ l, ts[t]? = some l ∧ ∀ x ∈ rs, x ∈ regsL [] l) := by
  induction h with
  | nil => exact ⟨⟨p, by rw [thrL]⟩, (fun l hl => by cases hl), (fun t rs h => by simp at h)⟩
  | @snoc ls rg l r h0 hl hn ih =>
    obtain ⟨⟨n, e⟩, hc, hr⟩ := ih
    obtain ⟨⟨c, e1⟩, g1, g2⟩ := thread_walk hk hl hn n
    refine ⟨⟨c.part, ?_⟩, fun l' hl' => ?_, fun t rs ht => ?_⟩
    · rw [thrL_app e, thrL, e1]
      show thrL v (locsK k) [] c.part = _
      rw [thrL]
    · rcases List.mem_append.1 hl' with h | h
      · exact hc l' h
      · rw [List.mem_singleton.1 h]
        exact g2
    · have hlen := h0.len
      by_cases hlt : t < rg.length
      · rw [List.getElem?_append_left hlt] at ht
        obtain ⟨l', h1, h2⟩ := hr t rs ht
        exact ⟨l', by rw [List.getElem?_append_left (by omega)]; exact h1, h2⟩
      · rw [List.getElem?_append_right (by omega)] at ht
        have ht0 : t - rg.length = 0 := by
          rcases Nat.eq_zero_or_pos (t - rg.length) with h | h
          · exact h
          · rw [List.getElem?_eq_none (by simp; omega)] at ht
            cases ht
        rw [ht0] at ht
        cases ht
        exact ⟨l, by rw [List.getElem?_append_right (by omega), ← hlen, ht0]; rfl, g1⟩
theorem MC.node {v k : Nat} {rg : List Nms'} {ts : List (List ST)} (hrg : ∀ (t : Nat) (rs : Nms'), rg[t]? = some rs → ∃ l, ts[t]? = some l ∧ ∀ x ∈ rs, x ∈ regsL [] l) {d : Nat} {e : CO} (h : MC v k rg d e) : eachC (nodeC v (locsK k) ts) e = 0 ∧ dpC e ≤ d + 1 := by
  induction h with
  | @mem d j n hj hn =>
    constructor
    · rw [eachC, eachCs]
      rw [nodeC_is, if_pos rfl, if_neg (by simp), if_pos (loc_in hj), if_pos ⟨by omega, by omega⟩]
      rfl
    · rw [dpC, dpCs]
      omega
  | @reg d t n rs s ht hs hn =>
    obtain ⟨l, h1, h2⟩ := hrg t rs ht
    have hlt : t < ts.length := by
      rcases Nat.lt_or_ge t ts.length with h | h
      · exact h
      · rw [List.getElem?_eq_none h] at h1
        cases h1
    constructor
    · rw [eachC, eachCs]
      rw [nodeC_is]
      have hg : ts.getD (t : Int).toNat [] = l := by
        rw [Int.toNat_natCast, List.getD_eq_getElem?_getD, h1]
        rfl
      rw [if_neg (by decide), if_pos rfl, if_neg (by simp; omega), hg, if_pos (h2 s hs), if_pos ⟨by omega, by omega⟩]
      rfl
    · rw [dpC, dpCs]
      omega
  | @not d a ha iha =>
    constructor
    · rw [eachC, eachCs, eachCs, iha.1]
      rw [nodeC_is, if_neg (by decide), if_neg (by decide), if_pos rfl, if_pos ⟨rfl, rfl, rfl, rfl⟩]
      rfl
    · rw [dpC, dpCs, dpCs]
      omega
  | @and d a b ha hb iha ihb =>
    constructor
    · rw [eachC, eachCs, eachCs, eachCs, iha.1, ihb.1]
      rw [nodeC_is, if_neg (by decide), if_neg (by decide), if_neg (by decide), if_pos (.inl rfl), if_pos ⟨rfl, rfl, rfl, rfl⟩]
      rfl
    · rw [dpC, dpCs, dpCs, dpCs]
      omega
  | @or d a b ha hb iha ihb =>
    constructor
    · rw [eachC, eachCs, eachCs, eachCs, iha.1, ihb.1]
      rw [nodeC_is, if_neg (by decide), if_neg (by decide), if_neg (by decide), if_pos (.inr rfl), if_pos ⟨rfl, rfl, rfl, rfl⟩]
      rfl
    · rw [dpC, dpCs, dpCs, dpCs]
      omega
theorem MI.take {v : Nat} {cs : List (List UInt8 × Int)} (h : MI v cs) (hl : cs.length ≤ 4) : ∀ j, j ≤ cs.length → celL v (cs.take j) [] 0 = .ok (locsK j)
  | 0, _ => by
    rw [List.take_zero, celL]
    rfl
  | j + 1, hj => by
    obtain ⟨c, hc⟩ : ∃ c, cs[j]? = some c := ⟨cs[j], List.getElem?_eq_getElem (by omega)⟩
    obtain ⟨n, hn, rfl⟩ := h j c hc
    have hlt : j < 4 := by omega
    have hz : cellE v (locsK j) ([locB j], (n : Int)) = 0 := by
      unfold cellE
      rw [if_neg (by
        rintro (h | h)
        · simp only at h
          rw [loc_name hlt] at h
          cases h
        · exact loc_not hlt h), if_pos ⟨by simp only; omega, by simp only; omega⟩]
    have hst := (Lx.celL_step hc (MI.take h hl j (by omega))).1 hz
    rw [hst]
    simp only
    unfold P.wth
    rw [if_neg (loc_not hlt)]
    unfold locsK
    rw [List.range_succ, List.map_append]
    rfl
theorem MP.may {v k : Nat} {p : PG} (h : MP v k 4 1 p) (hv2 : 2 ≤ v) (hv : v ≤ 4) (hk : k ≤ 4) (ht1 : 1 ≤ p.threads.length) (ht : p.threads.length ≤ 4) : mayP p = (0, 0) := by
  obtain ⟨h1, h2, h3, h4, ⟨a, h5, ha⟩, rg, h6, h7⟩ := h
  have hhead : headE p = 0 := by
    unfold headE
    rw [h1, h2, h4, if_neg (by decide +kernel), if_neg (by omega), if_neg (by omega), if_neg (by omega), if_neg (by omega)]
  have hcel : celL p.vals p.init [] 0 = .ok (locsK k) := by
    have h := MI.take h3 (by omega) p.init.length (Nat.le_refl _)
    rw [List.take_length, h4] at h
    rw [h2]
    exact h
  obtain ⟨⟨n, hn⟩, hc, hr⟩ := MT.walk hk h6 p.init.length
  obtain ⟨g1, g2⟩ := MC.node hr h7
  have hask : askE p (locsK k) = 0 := by
    unfold askE withinC
    rw [h5, if_neg (by omega), if_neg (by omega), h2, g1]
  unfold mayP
  rw [if_neg (fun hh => hh hhead), hcel]
  simp only
  rw [h2, hn]
  simp only
  rw [if_neg (fun hh => hh hask)]
end Go.Proofs.Ytlgnagmmljdkiab.P
