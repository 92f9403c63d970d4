/-
  Texts of which a token is dropped, doubled, put in, or that are cut: plain words. It proves nothing of Go by itself.
-/
import Derived.Test.YtihhkppimeagfaaPMadeM
import Derived.Test.YtihhkppimeagfaaSCut
namespace Go.Proofs.Ytihhkppimeagfaa.P
open L (Tok Piece)
set_option maxRecDepth 100000
set_option linter.unusedVariables false
set_option linter.unusedSimpArgs false
/-- What is put in. -/
def oddL : Nat → List UInt8
  | 0 => [108, 111, 97, 100]
  | 1 => [125]
  | 2 => [120]
  | 3 => [55]
  | 4 => [59]
  | 5 => [105, 102]
  | 6 => [61, 61]
  | 7 => [110, 111, 116]
  | _ => [101, 120, 105, 115, 116, 115]
theorem odd_un : ∀ k, ∃ b, Un (oddL k ++ [32]) b
  | 0 => ⟨_, un_word (wo_of (by decide))⟩
  | 1 => ⟨_, (un_sign (c := 125) (by decide) (by decide)).app un_sp⟩
  | 2 => ⟨_, un_word (wo_of (by decide))⟩
  | 3 => ⟨_, (ea_piece (L.Piece.num (a := [55]) (by decide) (by decide) (by decide))).un un_sp (front_cons (by decide))⟩
  | 4 => ⟨_, (un_sign (c := 59) (by decide) (by decide)).app un_sp⟩
  | 5 => ⟨_, un_word (wo_of (by decide))⟩
  | 6 => ⟨_, un_two.app un_sp⟩
  | 7 => ⟨_, un_word (wo_of (by decide))⟩
  | k + 8 => by
    rw [show oddL (k + 8) = [101, 120, 105, 115, 116, 115] from rfl]
    exact ⟨_, un_word (wo_of (by decide))⟩
theorem odd_len : ∀ k, (oddL k).length ≤ 6
  | 0 => by decide
  | 1 => by decide
  | 2 => by decide
  | 3 => by decide
  | 4 => by decide
  | 5 => by decide
  | 6 => by decide
  | 7 => by decide
  | k + 8 => by simp [oddL]
/-- A token's text with a blank; at n otherwise. -/
def fpc (us : List Tok) (n how od i : Nat) : List UInt8 :=
  if i = n then (if how = 0 then [] else if how = 1 then ((Lx.tat us i).text ++ [32]) ++ ((Lx.tat us i).text ++ [32]) else if how = 2 then (oddL od ++ [32]) ++ ((Lx.tat us i).text ++ [32]) else (Lx.tat us i).text ++ [32])
  else (Lx.tat us i).text ++ [32]
def fall (us : List Tok) (n how od : Nat) : Nat → List UInt8
  | 0 => []
  | i + 1 => fall us n how od i ++ fpc us n how od i
theorem fpc_len {us : List Tok} (hs : ∀ t ∈ us, t.text.length ≤ 4096) (n how od i : Nat) (hi : i < us.length) : (fpc us n how od i).length ≤ 8300 := by
  have h1 := hs _ (Lx.tat_mem hi)
  have h2 := odd_len od
  unfold fpc
  split
  · split
    · simp
    · split
      · simp only [List.length_append, List.length_cons, List.length_nil]
        omega
      · split
        · simp only [List.length_append, List.length_cons, List.length_nil]
          omega
        · simp only [List.length_append, List.length_cons, List.length_nil]
          omega
  · simp only [List.length_append, List.length_cons, List.length_nil]
    omega
theorem fall_len {us : List Tok} (hs : ∀ t ∈ us, t.text.length ≤ 4096) (n how od : Nat) : ∀ i, i ≤ us.length → (fall us n how od i).length ≤ 8300 * i
  | 0, _ => by simp [fall]
  | i + 1, h => by
    have h1 := fall_len hs n how od i (by omega)
    have h2 := fpc_len hs n how od i (by omega)
    simp only [fall, List.length_append]
    omega
theorem fall_un {us : List Tok} (hp : ∀ t ∈ us, Piece t.kind t.text t.n) (n how od : Nat) : ∀ i, i ≤ us.length → ∃ b, Un (fall us n how od i) b
  | 0, _ => ⟨_, un_nil⟩
  | i + 1, h => by
    obtain ⟨b, h1⟩ := fall_un hp n how od i (by omega)
    have h2 := un_piece un_sp (front_cons (by decide)) (hp _ (Lx.tat_mem (show i < us.length by omega)))
    obtain ⟨bo, h3⟩ := odd_un od
    have key : ∃ b', Un (fpc us n how od i) b' := by
      unfold fpc
      split
      · split
        · exact ⟨_, un_nil⟩
        · split
          · exact ⟨_, h2.app h2⟩
          · split
            · exact ⟨_, h3.app h2⟩
            · exact ⟨_, h2⟩
      · exact ⟨_, h2⟩
    obtain ⟨b', h4⟩ := key
    exact ⟨_, h1.app h4⟩
theorem fall_cut (us : List Tok) (n how od : Nat) : ∀ i, i ≤ n → i ≤ us.length → fall us n how od i = joinW [32] (us.take i)
  | 0, _, _ => by simp [fall, joinW]
  | i + 1, h, hl => by
    rw [fall, fall_cut us n how od i (by omega) (by omega), fpc, if_neg (by omega), Lx.joinW_take (by omega)]
/-- What becomes of a text that is spoilt: a program that may be shown, or a fault at a place of it; of one that is cut at its end. -/
def Spoilt (F : List UInt8) (cut : Prop) : Prop :=
  (∃ p l t b q1 q2 q3, Lx.parA (Lx.bs F) = .ok (p, l) ∧ TP p t b q1 q2 q3 ∧ t.length ≤ 1000000000000) ∨ ∃ a, Lx.parA (Lx.bs F) = .error (2, a) ∧ a ≤ F.length ∧ (cut → a = F.length)
theorem spoilt_any {F : List UInt8} {b : List Bo} (hF : Un F b) (hs : (Lx.bs F).size ≤ 4096) {cut : Prop} (hc : cut → ∀ ts a, L.lexL 0 F = .ok ts → pProg ts = .error a → a = F.length) : Spoilt F cut := by
  obtain ⟨ts, t0, h1, _, _⟩ := hF.lex
  obtain ⟨us, rfl, hi⟩ := L.lexL_ins h1
  have hds : Sds (fun x => x ≤ F.length) (us ++ [⟨4, [], 0, 0 + F.length⟩]) := by
    intro t ht
    rcases List.mem_append.1 ht with ht | ht
    · have h2 := hi.all t ht
      refine ⟨fun hk => ?_, fun hk => L.piece_top h2.piece, ?_⟩
      · have h3 := h2.piece
        rw [hk] at h3
        generalize t.text = tx at h3
        generalize t.n = tn at h3
        cases h3 with
        | word hb hr => exact ⟨_, _, rfl, hb, hr⟩
      · have := h2.to
        show t.at' ≤ F.length
        omega
    · rw [List.mem_singleton.1 ht]
      refine ⟨fun hk => (by cases hk), fun hk => (by cases hk), ?_⟩
      show 0 + F.length ≤ F.length
      omega
  obtain ⟨g1, g2⟩ := prog_rd (PL := fun x => x ≤ F.length) (Nat.zero_le _) hds
  have hby : L.lexL 0 (Lx.by' (Lx.bs F)) = .ok (us ++ [⟨4, [], 0, 0 + F.length⟩]) := h1
  cases e : pProg (us ++ [⟨4, [], 0, 0 + F.length⟩]) with
  | ok x =>
    obtain ⟨p, l⟩ := x
    obtain ⟨t, b', q1, q2, q3, h⟩ := g1 p l e
    have hl := lex_len (by rw [Lx.bs_size] at hs; exact hs) h1 e
    rw [← h.xp] at hl
    exact .inl ⟨p, l, t, b', q1, q2, q3, Lx.parA_of hs hby e, h, hl⟩
  | error a => exact .inr ⟨a, Lx.parA_no hs hby e, g2 a e, fun h => hc h _ a h1 e⟩
/-- A made program's text, spoilt. -/
theorem spoilt_made {p : PG} {t : List UInt8} {b : List Bo} {q1 q2 q3 : List Nat} (h : TP p t b q1 q2 q3) {us : List Tok} (hub : us.map body = b) (hin : L.Ins 0 t us) (n how od : Nat) (hn : n ≤ us.length) :
    (how ≠ 3 → (Lx.bs (fall us n how od us.length)).size ≤ 4096 → Spoilt (fall us n how od us.length) False) ∧ (how = 3 → (Lx.bs (fall us n how od n)).size ≤ 4096 → Spoilt (fall us n how od n) True) := by
  have hp : ∀ t ∈ us, Piece t.kind t.text t.n := fun x hx => (hin.all x hx).piece
  constructor
  · intro _ hs
    obtain ⟨b', hu⟩ := fall_un hp n how od us.length (Nat.le_refl _)
    exact spoilt_any hu hs (fun h => h.elim)
  · intro _ hs
    rw [fall_cut us n how od n (Nat.le_refl _) hn] at hs ⊢
    have hu := un_join un_sp (front_cons (c := 32) (r := []) (by decide)) (us.take n) (fun x hx => hp x (List.mem_of_mem_take hx))
    refine spoilt_any hu hs (fun _ ts a h1 h2 => ?_)
    obtain ⟨ts', t0, h3, ⟨us', rfl, hb'⟩, hk⟩ := hu.lex
    rw [h1] at h3
    cases h3
    obtain ⟨vs, e, _⟩ := L.lexL_ins h1
    obtain ⟨e1, e2⟩ := List.append_inj' e rfl
    have hat : t0.at' = (joinW [32] (us.take n)).length := by
      cases e2
      show 0 + _ = _
      omega
    by_cases hlt : n < us.length
    · have hcut : Cut b (us' ++ [t0]) t0 := by
        refine ⟨us', body us[n], (us.drop (n + 1)).map body, rfl, ?_⟩
        have e9 : us = us.take n ++ us[n] :: us.drop (n + 1) := by rw [← List.drop_eq_getElem_cons hlt, List.take_append_drop]
        rw [hb', ← hub]
        exact (congrArg (List.map body) e9).trans (by rw [List.map_append, List.map_cons])
      rw [prog_cut h.sp hk hcut] at h2
      cases h2
      exact hat
    · have hne : n = us.length := by omega
      subst hne
      rw [List.take_length] at hb' h1
      rw [hub] at hb'
      have := prog_reads h.sp ⟨us', rfl, hb'⟩ hk
      rw [this] at h2
      cases h2
theorem spoilt_exit {p : PG} {t : List UInt8} {b : List Bo} {q1 q2 q3 : List Nat} (h : TP p t b q1 q2 q3) {us : List Tok} (hub : us.map body = b) (hin : L.Ins 0 t us) (n how od i : Nat) (hn : n ≤ us.length) (hi : (how ≠ 3 ∧ i = us.length) ∨ (how = 3 ∧ i = n)) (hs : (Lx.bs (fall us n how od i)).size ≤ 4096) : Spoilt (fall us n how od i) (how = 3) := by
  obtain ⟨a1, a2⟩ := spoilt_made h hub hin n how od hn
  rcases hi with ⟨h1, rfl⟩ | ⟨h1, rfl⟩
  · rcases a1 h1 hs with h2 | ⟨a, h2, h3, _⟩
    · exact .inl h2
    · exact .inr ⟨a, h2, h3, fun h => absurd h h1⟩
  · rcases a2 h1 hs with h2 | ⟨a, h2, h3, h4⟩
    · exact .inl h2
    · exact .inr ⟨a, h2, h3, fun _ => h4 trivial⟩
end Go.Proofs.Ytihhkppimeagfaa.P
