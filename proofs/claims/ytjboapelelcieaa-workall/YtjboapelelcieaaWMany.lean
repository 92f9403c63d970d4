/-
  Lists beside one another: what a call of one leaves of the others. And plain mathematics of things that all went in first.
-/
import Derived.Test.YtjboapelelcieaaWBegun
namespace Go.Proofs.Ytjboapelelcieaa.Wk
open Go.RowKit
set_option linter.unusedVariables false
set_option linter.unusedSimpArgs false
theorem Pl.only {w w' : World} {base Q : Nat} {ts : List Th} {v pv kv : Value} (h : Pl w base Q ts v pv kv) {S : Nat → Prop} (ho : Only S w w') (hQ : ¬ S Q) (hv : ∀ g, v.ownBlock = some g → ¬ S g) : Pl w' base Q ts v pv kv := by
  refine ⟨Blk.only h.q ho hQ, ⟨h.own.1, ?_⟩, h.heap⟩
  rcases h.own.2 with h0 | ⟨g, cap, cur, hv', hg, hh, r⟩
  · exact .inl h0
  · exact .inr ⟨g, cap, cur, hv', hg, (ho.block g (lt_of_block hh) (hv g (by rw [hv']; rfl))).trans hh, r⟩
theorem Ls.only {w w' : World} {base : Nat} {F : Nat → Prop} {L Q : Nat} {ps : List Int} {k : Nat} {m : List Th} (h : Ls w base F L Q ps k m) {S : Nat → Prop} (ho : Only S w w') (hF : ∀ g, F g → ¬ S g) : Ls w' base F L Q ps k m := by
  obtain ⟨ts, v, pv, hP, hp, hperm, hF1, hF2⟩ := h.q
  exact ⟨Blk.only h.l ho (hF _ h.fl), ⟨ts, v, pv, hP.only ho (hF _ h.fq) (fun g hg => hF g (hF1 g hg)), hp.only ho (fun g hg => hF g (hF2 g hg)), hperm, hF1, hF2⟩, h.ord, h.fl, h.fq, fun g hg => ⟨(h.ins g hg).1, Nat.lt_of_lt_of_le (h.ins g hg).2 ho.size⟩⟩
/-- A list, as it is written down. -/
structure LD where
  L : Nat
  Q : Nat
  ps : List Int
  k : Nat
  m : List Th
/-- A list at w, by what is written down of it. -/
def LsD (w : World) (base : Nat) (F : Nat → Prop) (d : LD) : Prop := Ls w base F d.L d.Q d.ps d.k d.m
/-- A list with one thing more. -/
def LD.push (d : LD) (n : Int) : LD := { d with k := d.k + 1, m := d.m ++ [⟨n, keyOf d.ps d.k, d.k⟩] }
/-- A list with other things. -/
def LD.has (d : LD) (m : List Th) : LD := { d with m := m }
/-- Three lists beside one another. -/
def Tri (w : World) (base : Nat) (a b c : LD) : Prop :=
  ∃ Fa Fb Fc, LsD w base Fa a ∧ LsD w base Fb b ∧ LsD w base Fc c ∧ (∀ g, Fa g → ¬ Fb g) ∧ (∀ g, Fa g → ¬ Fc g) ∧ (∀ g, Fb g → ¬ Fc g)
theorem Tri.turn {w : World} {base : Nat} {a b c : LD} (h : Tri w base a b c) : Tri w base b c a := by
  obtain ⟨Fa, Fb, Fc, ha, hb, hc, h1, h2, h3⟩ := h
  exact ⟨Fb, Fc, Fa, hb, hc, ha, h3, fun g hg h => h1 g h hg, fun g hg h => h2 g h hg⟩
theorem Tri.base {w : World} {base : Nat} {a b c : LD} (h : Tri w base a b c) : base ≤ w.heap.size := by
  obtain ⟨Fa, Fb, Fc, ha, _⟩ := h
  exact Ls.base ha
theorem tri_goes {w w' : World} {base : Nat} {a a' b c : LD} {Fa Fb Fc : Nat → Prop} (ha : LsD w base Fa a) (hb : LsD w base Fb b) (hc : LsD w base Fc c) (h1 : ∀ g, Fa g → ¬ Fb g) (h2 : ∀ g, Fa g → ¬ Fc g) (h3 : ∀ g, Fb g → ¬ Fc g)
    (hg : Goes base Fa a'.L a'.Q a'.ps a'.k a'.m w w') : Tri w' base a' b c := by
  obtain ⟨F', hl, hF, ho⟩ := hg
  refine ⟨F', Fb, Fc, hl, Ls.only hb ho (fun g hg h => h1 g h hg), Ls.only hc ho (fun g hg h => h2 g h hg), fun g hg h => ?_, fun g hg h => ?_, h3⟩
  · rcases hF g hg with h4 | h4
    · exact h1 g h4 h
    · have := (hb.ins g h).2
      omega
  · rcases hF g hg with h4 | h4
    · exact h2 g h4 h
    · have := (hc.ins g h).2
      omega
/-- What a call of one of three lists leaves. -/
def TriTo (v : Value) (base : Nat) (a b c : LD) (w : World) (e : Ending) (w' : World) : Prop := e = .returned v ∧ Tri w' base a b c ∧ Below base w w'
theorem tri_push (base : Nat) (a b c : LD) (n : Int) (w : World) (h : Tri w base a b c) (hk : a.k < 1000000000) (hm : a.m.length < 1000000000) :
    Calls Try.prog 9 #[.pointer (some ⟨a.L, 0, none⟩), .int .i64 n] w (TriTo (.tuple #[]) base (a.push n) b c w) := by
  obtain ⟨Fa, Fb, Fc, ha, hb, hc, h1, h2, h3⟩ := h
  exact (push_any base Fa a.L a.Q a.ps a.k a.m n w ha hk hm).mono fun _ _ ⟨he, hg⟩ => ⟨he, tri_goes (a' := a.push n) ha hb hc h1 h2 h3 hg, hg.below ha⟩
theorem tri_pop (base : Nat) (a b c : LD) (w : World) (h : Tri w base a b c) (i : Nat) (n : Int) (m' : List Th) (hi : i < a.m.length) (hB : ∀ j, Best a.m j → j = i) (hn : (tat a.m i).n = n) (hm' : a.m.eraseIdx i = m') (hm : a.m.length < 1000000000) :
    Calls Try.prog 11 #[.pointer (some ⟨a.L, 0, none⟩)] w (TriTo (.tuple #[.int .i64 n, .bool true]) base (a.has m') b c w) := by
  obtain ⟨Fa, Fb, Fc, ha, hb, hc, h1, h2, h3⟩ := h
  refine (pop_some base Fa a.L a.Q a.ps a.k a.m w ha (by omega) hm).mono ?_
  rintro e w' ⟨j, hj, he, hg⟩
  have := hB j hj
  subst this
  subst hm'
  subst hn
  exact ⟨he, tri_goes (a' := a.has _) ha hb hc h1 h2 h3 hg, hg.below ha⟩
/-! ### all goes in first -/
/-- The things of l, pushed one behind the other. -/
def mk (ps : List Int) (l : List Int) : List Th := (List.range l.length).map fun j => ⟨l.getD j 0, keyOf ps j, j⟩
theorem mk_len (ps l : List Int) : (mk ps l).length = l.length := by simp [mk]
theorem mk_at (ps l : List Int) (j : Nat) (h : j < l.length) : (mk ps l)[j]? = some ⟨l.getD j 0, keyOf ps j, j⟩ := by
  simp [mk, h]
theorem mk_take (ps l : List Int) (j : Nat) (h : j < l.length) : (mk ps l).take (j + 1) = (mk ps l).take j ++ [⟨l.getD j 0, keyOf ps j, j⟩] := by
  have hj : j < (mk ps l).length := by rw [mk_len]; exact h
  rw [List.take_succ_eq_append_getElem hj]
  have := mk_at ps l j h
  rw [List.getElem?_eq_getElem hj] at this
  rw [Option.some.inj this]
theorem tat_of {m : List Th} {i : Nat} {t : Th} (h : m[i]? = some t) : tat m i = t := by
  simp [tat, List.getD_eq_getElem?_getD, h]
theorem drop_at (ps l : List Int) (i j : Nat) (h : i + j < l.length) : tat ((mk ps l).drop i) j = ⟨l.getD (i + j) 0, keyOf ps (i + j), (i + j : Nat)⟩ := by
  apply tat_of
  rw [List.getElem?_drop]
  exact mk_at ps l (i + j) h
theorem take_at' (ps l : List Int) (i j : Nat) (hj : j < i) (h : i ≤ l.length) : tat ((mk ps l).take i) j = ⟨l.getD j 0, keyOf ps j, (j : Nat)⟩ := by
  apply tat_of
  rw [List.getElem?_take, if_pos hj]
  exact mk_at ps l j (by omega)
/-- Of like keys the first one comes out. -/
theorem best_first (ps l : List Int) (i : Nat) (c : Int) (hc : ∀ j, keyOf ps j = c) : ∀ j, Best ((mk ps l).drop i) j → j = 0 := by
  rintro j ⟨hj, hb⟩
  simp only [List.length_drop, mk_len] at hj hb
  by_cases h0 : j = 0
  · exact h0
  · have h1 := hb 0 (by omega)
    rw [drop_at ps l i 0 (by omega), drop_at ps l i j (by omega), lt_turn (by rw [hc, hc])] at h1
    simp at h1
    omega
theorem erase_first (ps l : List Int) (i : Nat) : ((mk ps l).drop i).eraseIdx 0 = (mk ps l).drop (i + 1) := by
  rw [List.eraseIdx_zero, List.tail_drop]
/-- Of falling keys the last one comes out. -/
theorem best_last (ps l : List Int) (i : Nat) (hi : i < l.length) (hc : ∀ j, j < l.length → keyOf ps j = (l.length : Int) - j) : ∀ j, Best ((mk ps l).take (i + 1)) j → j = i := by
  rintro j ⟨hj, hb⟩
  have hle : ((mk ps l).take (i + 1)).length = i + 1 := by rw [List.length_take, mk_len]; omega
  rw [hle] at hj hb
  by_cases h0 : j = i
  · exact h0
  · have h1 := hb i (by omega)
    rw [take_at' ps l (i + 1) i (by omega) (by omega), take_at' ps l (i + 1) j hj (by omega), lt_key (by simp only; rw [hc i hi, hc j (by omega)]; omega)] at h1
    simp only at h1
    rw [hc i hi, hc j (by omega)] at h1
    simp at h1
    omega
theorem erase_last (ps l : List Int) (i : Nat) (hi : i < l.length) : ((mk ps l).take (i + 1)).eraseIdx i = (mk ps l).take i := by
  rw [mk_take ps l i hi]
  have hl : ((mk ps l).take i).length = i := by rw [List.length_take, mk_len]; omega
  rw [List.eraseIdx_append_of_length_le (by omega), hl]
  simp
/-- Falling numbers. -/
def downs (n j : Nat) : List Int := (List.range j).map fun i => (n : Int) - (i : Nat)
theorem downs_len (n j : Nat) : (downs n j).length = j := by simp [downs]
theorem downs_succ (n j : Nat) : downs n (j + 1) = downs n j ++ [(n : Int) - (j : Nat)] := by simp [downs, List.range_succ]
theorem downs_key (n j : Nat) (h : j < n) : keyOf (downs n n) j = (n : Int) - j := by
  unfold keyOf
  rw [downs_len, if_neg (by omega), Nat.mod_eq_of_lt h]
  simp [downs, List.getD_eq_getElem?_getD, h]
theorem key_none (j : Nat) : keyOf [] j = 0 := by simp [keyOf]
theorem key_one (x : Int) (j : Nat) : keyOf [x] j = x := by simp [keyOf, Nat.mod_one]
theorem ints_of_own {w : World} {base : Nat} {v : Value} {xs : List Int} (h : w.ownsRow base 3 1 v xs.length (ints xs)) (hm : xs.length ≤ 4611686018427387904) : ∃ a cap, v = .slice a xs.length cap ∧ IsInts w a xs.length cap xs := by
  rcases h.2 with ⟨rfl, h0⟩ | ⟨g, cap, cur, rfl, hg, hh, hn, hcm, hs, ht⟩
  · exact ⟨none, 0, by rw [h0], rfl, hm, fun _ => rfl, .inl h0⟩
  · refine ⟨some ⟨g, 0, none⟩, cap, rfl, rfl, hm, (fun e => by cases e), .inr ⟨g, 0, rfl, fun i hi => ?_⟩⟩
    have hB : Blk w g 3 cur := hh
    rw [Nat.zero_add, hB.cell]
    have h1 : (ints xs)[i]? = some (.int .i64 (xs.getD i 0)) := by simp [ints, List.getD_eq_getElem?_getD, hi]
    rw [← ht, List.getElem?_take] at h1
    split at h1
    · simpa using h1
    · cases h1
theorem IsInts.at {w : World} {a : Option Addr} {len cap : Nat} {xs : List Int} (h : IsInts w a len cap xs) (h0 : 0 < len) : ∃ b off, a = some ⟨b, off, none⟩ ∧ ∀ i, i < len → w.cell? ⟨b, off + i, none⟩ = some (.int .i64 (xs.getD i 0)) := by
  obtain ⟨_, _, _, h | h⟩ := h
  · omega
  · exact h
theorem own_below {w w' : World} {base : Nat} {t : TypeId} {size n : Nat} {v : Value} {xs : List Value} (h : w.ownsRow base t size v n xs) (hb : Below w.heap.size w w') : w'.ownsRow base t size v n xs := by
  refine ⟨h.1, ?_⟩
  rcases h.2 with h0 | ⟨g, cap, cur, hv, hg, hh, r⟩
  · exact .inl h0
  · exact .inr ⟨g, cap, cur, hv, hg, (hb.block g (lt_of_block hh)).trans hh, r⟩
end Go.Proofs.Ytjboapelelcieaa.Wk
