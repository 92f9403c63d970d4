/-
  What the statements over programs that are made lean on: their texts' tokens, what is read of them. It proves nothing of Go by itself.
-/
import Derived.Test.YtihhkppimeagfaaXProg
import Derived.Test.YtihhkppimeagfaaSLen
import Derived.Test.YtihhkppimeagfaaSInv
import Derived.Test.YtihhkppimeagfaaMMade
import Derived.Test.YtihhkppimeagfaaQBegun
import Derived.Test.YtihhkppimeagfaaLRefWalk
namespace Go.Proofs.Ytihhkppimeagfaa.Lx
open Go.RowKit
open L (Tok)
open P (EX CO ST PG TP MP Bo)
set_option maxRecDepth 100000
set_option linter.unusedVariables false
set_option linter.unusedSimpArgs false
/-- Two blocks that are made one after the other. -/
theorem two_new (w : World) (t1 t2 : TypeId) (c1 c2 : Array Value) : Below w.heap.size w ((w.alloc (.cells c1 t1)).alloc (.cells c2 t2)) ∧ Blk ((w.alloc (.cells c1 t1)).alloc (.cells c2 t2)) w.heap.size t1 c1 ∧ Blk ((w.alloc (.cells c1 t1)).alloc (.cells c2 t2)) (w.heap.size + 1) t2 c2 ∧ w.heap.size + 1 < ((w.alloc (.cells c1 t1)).alloc (.cells c2 t2)).heap.size := by
  have h2 := Blk.new (w.alloc (.cells c1 t1)) t2 c2
  rw [show (w.alloc (.cells c1 t1)).heap.size = w.heap.size + 1 by simp] at h2
  exact ⟨((Below.refl _ _).alloc (Nat.le_refl _) _).alloc (by simp) _, (Blk.new w t1 c1).alloc _, h2, h2.lt⟩
theorem new_one (w : World) (t1 : TypeId) (c1 : Array Value) : Below w.heap.size w (w.alloc (.cells c1 t1)) ∧ Blk (w.alloc (.cells c1 t1)) w.heap.size t1 c1 ∧ w.heap.size < (w.alloc (.cells c1 t1)).heap.size := ⟨(Below.refl _ _).alloc (Nat.le_refl _) _, Blk.new w t1 c1, (Blk.new w t1 c1).lt⟩
/-- What is made has a text. -/
theorem made_tp {v k : Nat} {p : PG} (h : MP v k 4 1 p) (hv : v ≤ 4) (hk : k ≤ 4) (hl : p.threads.length ≤ 4) : ∃ t b q1 q2 q3, TP p t b q1 q2 q3 ∧ t.length ≤ 1000000000000 := by
  obtain ⟨t, b, q1, q2, q3, h1, h2⟩ := h.shown (by omega) (by omega) (by omega)
  refine ⟨t, b, q1, q2, q3, h1, ?_⟩
  have hb : P.lsb 1 1 ≤ 1000 := by simp [P.lsb]
  generalize P.lsb 1 1 = n at *
  omega
theorem lexA_long {s : ByteArray} (h : ¬ s.size ≤ 4096) : lexA s = .error (.long, 0) := by rw [lexA, if_neg h]
theorem parA_long {s : ByteArray} (h : ¬ s.size ≤ 4096) : parA s = .error (3, 0) := by
  unfold parA
  rw [lexA_long h]
  rfl
theorem parA_of {s : ByteArray} (h : s.size ≤ 4096) {ts : List Tok} (e : L.lexL 0 (by' s) = .ok ts) {p : PG} {l : List Nat} (hp : P.pProg ts = .ok (p, l)) : parA s = .ok (p, l) := by
  unfold parA
  rw [lexA, if_pos h, e]
  simp only [hp]
theorem parA_no {s : ByteArray} (h : s.size ≤ 4096) {ts : List Tok} (e : L.lexL 0 (by' s) = .ok ts) {a : Nat} (hp : P.pProg ts = .error a) : parA s = .error (2, a) := by
  unfold parA
  rw [lexA, if_pos h, e]
  simp only [hp]
theorem tp_lex {p : PG} {t : List UInt8} {b : List Bo} {q1 q2 q3 : List Nat} (h : TP p t b q1 q2 q3) (hs : (bs t).size ≤ 4096) : ∃ us, lexA (bs t) = .ok (us ++ [⟨4, [], 0, t.length⟩]) ∧ L.lexL 0 t = .ok (us ++ [⟨4, [], 0, t.length⟩]) ∧ us.map P.body = b ∧ L.Ins 0 t us ∧ parA (bs t) = .ok (p, P.plc (0 :: (q1 ++ (q2 ++ q3))) (us ++ [⟨4, [], 0, t.length⟩])) ∧ ∀ i ∈ q2, i < b.length ∧ ∃ off, 1 ≤ off ∧ off < t.length ∧ P.here (us.drop i) = off ∧ t[off - 1]? = some 32 := by
  obtain ⟨us, e, hb, hi, hq⟩ := h.toks
  obtain ⟨ts, e2, hp⟩ := h.reads
  rw [e] at e2
  cases e2
  refine ⟨us, ?_, e, hb, hi, parA_of hs (by rw [by_bs]; exact e) hp, hq⟩
  rw [lexA, if_pos hs, by_bs]
  exact e
/-- A text's tokens: how long they are with what is between. -/
theorem joinW_len {btw : List UInt8} (hb : btw.length ≤ 6) : ∀ (ts : List Tok), (∀ t ∈ ts, t.text.length ≤ 4096) → (P.joinW btw ts).length ≤ 4102 * ts.length
  | [], _ => by simp [P.joinW]
  | t :: ts, h => by
    have h1 := h t (by simp)
    have h2 := joinW_len hb ts (fun x hx => h x (by simp [hx]))
    rw [P.joinW_cons, List.length_append, List.length_append, List.length_cons]
    omega
theorem joinW_take {btw : List UInt8} {ts : List Tok} {i : Nat} (h : i < ts.length) : P.joinW btw (ts.take (i + 1)) = P.joinW btw (ts.take i) ++ ((tat ts i).text ++ btw) := by
  rw [List.take_add_one, List.getElem?_eq_getElem h, P.joinW_app]
  have : tat ts i = ts[i] := by simp [tat, List.getD_eq_getElem?_getD, List.getElem?_eq_getElem h]
  rw [this]
  simp [P.joinW]
theorem t_join (o a b : List UInt8) : (bs o ++ bs a) ++ bs b = bs (o ++ (a ++ b)) := by
  simp only [bs_app, List.append_assoc]
theorem tat_mem {ts : List Tok} {i : Nat} (h : i < ts.length) : tat ts i ∈ ts := by
  have : tat ts i = ts[i] := by simp [tat, List.getD_eq_getElem?_getD, List.getElem?_eq_getElem h]
  rw [this]
  exact List.getElem_mem h
theorem toks_short {t : List UInt8} {us : List Tok} (hs : t.length ≤ 4096) (hi : L.Ins 0 t us) : (∀ x ∈ us ++ [(⟨4, [], 0, t.length⟩ : Tok)], x.text.length ≤ 4096) ∧ (us ++ [(⟨4, [], 0, t.length⟩ : Tok)]).length ≤ 4097 := by
  refine ⟨fun x hx => ?_, ?_⟩
  · rcases List.mem_append.1 hx with hx | hx
    · have := (hi.all x hx).to
      omega
    · rw [List.mem_singleton.1 hx]
      exact Nat.zero_le _
  · have := hi.count
    rw [List.length_append]
    simp only [List.length_cons, List.length_nil]
    omega
end Go.Proofs.Ytihhkppimeagfaa.Lx
