/-
  What work's calls do (New, Push, Pop, Len), as contracts: by the things that a list has, in the order in which they were pushed.
-/
import Derived.Test.YtjboapelelcieaaWQueue
import Derived.Test.YtjboapelelcieaaWMath
namespace Go.Proofs.Ytjboapelelcieaa.Wk
open Go.RowKit
set_option linter.unusedVariables false
set_option linter.unusedSimpArgs false
/-- Function F is one with a body of its own. -/
def Enters (F : Nat) : Prop := ∀ args w, (callFunc F args).run Try.prog w = .ok (.enter F args) w
theorem enters_of {F : Nat} {fn : Func} {c : Code} (hf : Try.prog.funcs[F]? = some fn) (hn : (fn.name == "runtime.NumGoroutine") = false) (hb : fn.body = some c) : Enters F := fun args w => by
  have h1 : fn.name ≠ "runtime.NumGoroutine" := by simpa using hn
  simp [callFunc, hf, h1, hb]
theorem enters_put : Enters 14 := enters_of Try.func14 (by kernel_rfl) rfl
theorem enters_take : Enters 15 := enters_of Try.func15 (by kernel_rfl) rfl
theorem enters_size : Enters 16 := enters_of Try.func16 (by kernel_rfl) rfl
/-- A queue's method as a value. -/
abbrev mval (F Q : Nat) : Value := .func (.func F) #[.pointer (some ⟨Q, 0, none⟩)] #[]
/-- A list at L: it has the calls of the queue at Q; the blocks that are its own are among F; the things m are there, in the order in which they were pushed, out of k. -/
structure Ls (w : World) (base : Nat) (F : Nat → Prop) (L Q : Nat) (ps : List Int) (k : Nat) (m : List Th) : Prop where
  l : Blk w L 39 #[mval 14 Q, mval 15 Q, mval 16 Q]
  q : ∃ ts v pv, Pl w base Q ts v pv (.int .i64 (k : Nat)) ∧ Pk w base pv ps ∧ ts.Perm m ∧ (∀ g, v.ownBlock = some g → F g) ∧ ∀ g, pv.ownBlock = some g → F g
  ord : Ordered ps k m
  fl : F L
  fq : F Q
  ins : ∀ g, F g → base ≤ g ∧ g < w.heap.size
/-- What a list is behind a call: its blocks are its own, or new; of the blocks that were there only its own have turned. -/
def Goes (base : Nat) (F : Nat → Prop) (L Q : Nat) (ps : List Int) (k : Nat) (m : List Th) (w w' : World) : Prop :=
  ∃ F' : Nat → Prop, Ls w' base F' L Q ps k m ∧ (∀ g, F' g → F g ∨ w.heap.size ≤ g) ∧ Only F w w'
theorem Pk.only {w w' : World} {base : Nat} {pv : Value} {ps : List Int} (h : Pk w base pv ps) {S : Nat → Prop} (ho : Only S w w') (hS : ∀ g, pv.ownBlock = some g → ¬ S g) : Pk w' base pv ps := by
  refine ⟨⟨h.1.1, ?_⟩, h.2⟩
  rcases h.1.2 with h0 | ⟨g, cap, cur, hv, hg, hh, r⟩
  · exact .inl h0
  · exact .inr ⟨g, cap, cur, hv, hg, (ho.block g (lt_of_block hh) (hS g (by rw [hv]; rfl))).trans hh, r⟩
theorem own_apart {w : World} {base : Nat} {t t' : TypeId} {s s' n n' : Nat} {v v' : Value} {xs xs' : List Value} (h : w.ownsRow base t s v n xs) (h' : w.ownsRow base t' s' v' n' xs') (hne : t ≠ t') (g : Nat) (hg : v.ownBlock = some g) : v'.ownBlock ≠ some g := by
  rcases h.2 with ⟨rfl, _⟩ | ⟨g', cap, cur, rfl, _, hh, _⟩
  · simp [Value.ownBlock] at hg
  · have e : g' = g := by simpa [Value.ownBlock] using hg
    subst e
    exact own_ne (t' := t) h' hh (Ne.symm hne)
/-- What put and take leave of a list. -/
theorem goes_of {w w' : World} {base : Nat} {F : Nat → Prop} {L Q : Nat} {ps : List Int} {k k' : Nat} {m m' ts ts' : List Th} {v v' pv : Value} {kv : Value} (h : Ls w base F L Q ps k m)
    (hP : Pl w base Q ts v pv kv) (hp : Pk w base pv ps) (hF1 : ∀ g, v.ownBlock = some g → F g) (hF2 : ∀ g, pv.ownBlock = some g → F g)
    (hP' : Pl w' base Q ts' v' pv (.int .i64 (k' : Nat))) (hv : ∀ g, v'.ownBlock = some g → v.ownBlock = some g ∨ w.heap.size ≤ g) (ho : Only (Own Q v) w w') (hb : base ≤ w.heap.size)
    (hperm : ts'.Perm m') (hord : Ordered ps k' m') : Goes base F L Q ps k' m' w w' := by
  have hnl : ¬ Own Q v L := by
    rintro (e | e)
    · exact Blk.ne h.l hP.q (by decide) e
    · exact own_ne hP.own h.l (by decide) e
  have hnp : ∀ g, pv.ownBlock = some g → ¬ Own Q v g := by
    rintro g hg (e | e)
    · subst e
      exact own_ne hp.1 hP.q (by decide) hg
    · exact own_apart hp.1 hP.own (by decide) g hg e
  refine ⟨fun g => F g ∨ v'.ownBlock = some g, ⟨Blk.only h.l ho hnl, ⟨ts', v', pv, hP', hp.only ho hnp, hperm, fun g hg => .inr hg, fun g hg => .inl (hF2 g hg)⟩, hord, .inl h.fl, .inl h.fq, ?_⟩, ?_, ?_⟩
  · rintro g (hg | hg)
    · exact ⟨(h.ins g hg).1, Nat.lt_of_lt_of_le (h.ins g hg).2 ho.size⟩
    · exact hP'.own.lt g hg
  · rintro g (hg | hg)
    · exact .inl hg
    · rcases hv g hg with h1 | h1
      · exact .inl (hF1 g h1)
      · exact .inr h1
  · refine ho.mono ?_
    rintro g _ (e | e)
    · subst e
      exact h.fq
    · exact hF1 g e
end Go.Proofs.Ytjboapelelcieaa.Wk
