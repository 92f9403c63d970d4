/-
  The loop 'run' of package reach, for whatever functions are handed to it: one that tells whether there is more, one that takes a step.
-/
import Derived.Test.YtokehiehfgffmaaDoorKMath
import Derived.ArgAppend
namespace Go.Proofs.YtokehiehfgffmaaDoor
open Go.RowKit
set_option linter.unusedVariables false
set_option linter.unusedSimpArgs false

/-- What a call of 'more' leaves. -/
def MoreTo {σ : Type} (I : σ → World → Prop) (b : σ → Bool) (mw : World → Nat) (s : σ) (w : World) (e : Ending) (w' : World) : Prop := e = .returned (.bool (b s)) ∧ I s w' ∧ mw w' = mw w
/-- What a step leaves. -/
def StepTo {σ : Type} (I : σ → World → Prop) (mw : World → Nat) (w : World) (e : Ending) (w' : World) : Prop := e = .returned (.tuple #[]) ∧ (∃ s, I s w') ∧ mw w' < mw w
/-- What run leaves. -/
def RunTo {σ : Type} (I : σ → World → Prop) (b : σ → Bool) (e : Ending) (w' : World) : Prop := e = .returned (.tuple #[]) ∧ ∃ s, I s w' ∧ b s = false
def RunR {σ : Type} (I : σ → World → Prop) (w : World) : Prop := ∃ s, I s w

set_option maxHeartbeats 400000 in
theorem run_closing (F G : Nat) (hF : Enters F) (hG : Enters G) (p : Value) {σ : Type} (I : σ → World → Prop) (b : σ → Bool) (mw : World → Nat)
    (hmore : ∀ s w, I s w → Calls Tryd.prog F #[p] w (MoreTo I b mw s w)) (hstep : ∀ s w, I s w → b s = true → Calls Tryd.prog G #[p] w (StepTo I mw w)) (s0 : σ) (w : World) (h0 : I s0 w) :
    Calls Tryd.prog 47 #[p, .func (.func F) #[] #[], .func (.func G) #[] #[]] w (RunTo I b) := by
  have HF := Lib.hid hF
  have HG := Lib.hid hG
  have HM := Lib.hid hmore
  have HS := Lib.hid hstep
  clear hF hG hmore hstep
  go_enter Tryd.func47, Tryd.ntmps47
  go_wp2
  go_loopw [] (fun wr => RunR I wr) (fun wr => mw wr)
  case atStart => exact ⟨s0, h0⟩
  case round =>
    obtain ⟨s, hI⟩ := hrel
    go_wp2_with fail
    rw [HF.out, Oper.upon_enter]
    refine (HM.out s _ hI).mono ?_
    rintro e w1 ⟨rfl, hI1, hm1⟩
    have HM1 := Lib.hid hm1
    clear hm1
    cases hb : b s
    · go_wp2
      go_end0
      exact ⟨rfl, s, hI1, hb⟩
    · have HST := Lib.hid (HS.out s _ hI1 hb)
      go_wp2_with fail
      rw [HG.out, Oper.upon_enter]
      refine HST.out.mono ?_
      rintro e w2 ⟨rfl, hI2, hm2⟩
      have HM2 := Lib.hid hm2
      clear hm2
      go_wp2
      go_roundw
      case rel => exact hI2
      case measure =>
        have := HM1.out
        have := HM2.out
        omega
set_option maxHeartbeats 400000 in
theorem run_peel (F G : Nat) (hF : Enters F) (hG : Enters G) (p : Value) {σ : Type} (I : σ → World → Prop) (b : σ → Bool) (mw : World → Nat)
    (hmore : ∀ s w, I s w → Calls Tryd.prog F #[p] w (MoreTo I b mw s w)) (hstep : ∀ s w, I s w → b s = true → Calls Tryd.prog G #[p] w (StepTo I mw w)) (s0 : σ) (w : World) (h0 : I s0 w) :
    Calls Tryd.prog 41 #[p, .func (.func F) #[] #[], .func (.func G) #[] #[]] w (RunTo I b) := by
  have HF := Lib.hid hF
  have HG := Lib.hid hG
  have HM := Lib.hid hmore
  have HS := Lib.hid hstep
  clear hF hG hmore hstep
  go_enter Tryd.func41, Tryd.ntmps41
  go_wp2
  go_loopw [] (fun wr => RunR I wr) (fun wr => mw wr)
  case atStart => exact ⟨s0, h0⟩
  case round =>
    obtain ⟨s, hI⟩ := hrel
    go_wp2_with fail
    rw [HF.out, Oper.upon_enter]
    refine (HM.out s _ hI).mono ?_
    rintro e w1 ⟨rfl, hI1, hm1⟩
    have HM1 := Lib.hid hm1
    clear hm1
    cases hb : b s
    · go_wp2
      go_end0
      exact ⟨rfl, s, hI1, hb⟩
    · have HST := Lib.hid (HS.out s _ hI1 hb)
      go_wp2_with fail
      rw [HG.out, Oper.upon_enter]
      refine HST.out.mono ?_
      rintro e w2 ⟨rfl, hI2, hm2⟩
      have HM2 := Lib.hid hm2
      clear hm2
      go_wp2
      go_roundw
      case rel => exact hI2
      case measure =>
        have := HM1.out
        have := HM2.out
        omega
set_option maxHeartbeats 400000 in
theorem run_walk (F G : Nat) (hF : Enters F) (hG : Enters G) (p : Value) {σ : Type} (I : σ → World → Prop) (b : σ → Bool) (mw : World → Nat)
    (hmore : ∀ s w, I s w → Calls Tryd.prog F #[p] w (MoreTo I b mw s w)) (hstep : ∀ s w, I s w → b s = true → Calls Tryd.prog G #[p] w (StepTo I mw w)) (s0 : σ) (w : World) (h0 : I s0 w) :
    Calls Tryd.prog 78 #[p, .func (.func F) #[] #[], .func (.func G) #[] #[]] w (RunTo I b) := by
  have HF := Lib.hid hF
  have HG := Lib.hid hG
  have HM := Lib.hid hmore
  have HS := Lib.hid hstep
  clear hF hG hmore hstep
  go_enter Tryd.func78, Tryd.ntmps78
  go_wp2
  go_loopw [] (fun wr => RunR I wr) (fun wr => mw wr)
  case atStart => exact ⟨s0, h0⟩
  case round =>
    obtain ⟨s, hI⟩ := hrel
    go_wp2_with fail
    rw [HF.out, Oper.upon_enter]
    refine (HM.out s _ hI).mono ?_
    rintro e w1 ⟨rfl, hI1, hm1⟩
    have HM1 := Lib.hid hm1
    clear hm1
    cases hb : b s
    · go_wp2
      go_end0
      exact ⟨rfl, s, hI1, hb⟩
    · have HST := Lib.hid (HS.out s _ hI1 hb)
      go_wp2_with fail
      rw [HG.out, Oper.upon_enter]
      refine HST.out.mono ?_
      rintro e w2 ⟨rfl, hI2, hm2⟩
      have HM2 := Lib.hid hm2
      clear hm2
      go_wp2
      go_roundw
      case rel => exact hI2
      case measure =>
        have := HM1.out
        have := HM2.out
        omega
end Go.Proofs.YtokehiehfgffmaaDoor
