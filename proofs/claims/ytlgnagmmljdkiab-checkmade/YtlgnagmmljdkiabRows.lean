/-
  NARROWER THAN 'FOR EVERY INPUT', by the rows' own cells (each row's printed sentence says how): EvalAll: loops.
  DERIVED. THE GIVEN ROWS OF THIS SEAT. 6 by the template 'for every input the law returns true; each argument reads behind the call as it read before'; 0 by the template 'total and deterministic' (their statements: YtlgnagmmljdkiabTotals.lean).
  GIVEN WITH THE SEED: the statements are not yours to turn. If you find one false, say at which input.
  Laid BY PROGRAM, IN A SANDBOX (cutbox-rows.mjs): the forced cells as the released guide's own fill.sh prints them over the translation 5bb59c1e46449fc0… (all of the seat's roots in one cut). By AI agents, Wed Nov 11 2026. No macro, syntax, notation, axiom, sorry.
-/
import Derived.Test.YtlgnagmmljdkiabChecked
import GoSem.Claim
import GoSem.ClaimJoined
import GoSem.ClaimMapViews
import Derived.JoinedTies
import Derived.KernelRfl
namespace Go.Proofs.Ytlgnagmmljdkiab
/- THE CELL 'sum', in the pinned program and in every row, IS THE sha256 OF THE DUMP (.gsa) THAT YtlgnagmmljdkiabProg.lean LOADS. Nothing in Lean hashes anything: it is a label: what it is worth is what the hold of that sum in a sandbox is worth. -/
noncomputable def Try.pinned : Pinned := { name := "ytlgnagmmljdkiab", sum := "5bb59c1e46449fc049ed236d79c23a12b832beacb9985660ad9f68d56f67dcd3", checked := Try.checked }
namespace Rows
def none {H : Type} : Left H := { results := [], args := [] }

/-- 'withelaw9.CheckMade': WHATEVER THE INPUT: true; the input reads as it did. -/
def checkMadeSpec : ChangeSpec := { name := "checkMade", fn := fun _ => fun
  | [d] => { results := [.lit (.bool true)], args := [d] }
  | _ => none }
def checkMadeRow : OpenClaim := { program := "ytlgnagmmljdkiab", sum := "5bb59c1e46449fc049ed236d79c23a12b832beacb9985660ad9f68d56f67dcd3", func := "withe/withelaw9.CheckMade", spec := "checkMade", unfollowed := true, recurses := true, apart := false }
def CheckMadeSaid : Prop := checkMadeRow.holds Try.pinned (OpenSpec.ofChange checkMadeSpec)

/-- ITS FALSE NEIGHBOUR: 'it returns false'. Refute it at one input. -/
def checkMadeWrong : ChangeSpec := { name := "checkMade", fn := fun _ => fun
  | [d] => { results := [.lit (.bool false)], args := [d] }
  | _ => none }
def CheckMadeWrongFalsely : Prop := checkMadeRow.holds Try.pinned (OpenSpec.ofChange checkMadeWrong)

/-- 'withelaw9.CheckInits': WHATEVER THE INPUT: true; the input reads as it did. -/
def checkInitsSpec : ChangeSpec := { name := "checkInits", fn := fun _ => fun
  | [d1, d2, d3] => { results := [.lit (.bool true)], args := [d1, d2, d3] }
  | _ => none }
def checkInitsRow : OpenClaim := { program := "ytlgnagmmljdkiab", sum := "5bb59c1e46449fc049ed236d79c23a12b832beacb9985660ad9f68d56f67dcd3", func := "withe/withelaw9.CheckInits", spec := "checkInits", unfollowed := true, recurses := true, apart := false }
def CheckInitsSaid : Prop := checkInitsRow.holds Try.pinned (OpenSpec.ofChange checkInitsSpec)

/-- ITS FALSE NEIGHBOUR: 'it returns false'. Refute it at one input. -/
def checkInitsWrong : ChangeSpec := { name := "checkInits", fn := fun _ => fun
  | [d1, d2, d3] => { results := [.lit (.bool false)], args := [d1, d2, d3] }
  | _ => none }
def CheckInitsWrongFalsely : Prop := checkInitsRow.holds Try.pinned (OpenSpec.ofChange checkInitsWrong)

/-- 'withelaw9.CheckStmts': WHATEVER THE INPUT: true; the input reads as it did. -/
def checkStmtsSpec : ChangeSpec := { name := "checkStmts", fn := fun _ => fun
  | [d1, d2] => { results := [.lit (.bool true)], args := [d1, d2] }
  | _ => none }
def checkStmtsRow : OpenClaim := { program := "ytlgnagmmljdkiab", sum := "5bb59c1e46449fc049ed236d79c23a12b832beacb9985660ad9f68d56f67dcd3", func := "withe/withelaw9.CheckStmts", spec := "checkStmts", unfollowed := true, recurses := true, apart := false }
def CheckStmtsSaid : Prop := checkStmtsRow.holds Try.pinned (OpenSpec.ofChange checkStmtsSpec)

/-- ITS FALSE NEIGHBOUR: 'it returns false'. Refute it at one input. -/
def checkStmtsWrong : ChangeSpec := { name := "checkStmts", fn := fun _ => fun
  | [d1, d2] => { results := [.lit (.bool false)], args := [d1, d2] }
  | _ => none }
def CheckStmtsWrongFalsely : Prop := checkStmtsRow.holds Try.pinned (OpenSpec.ofChange checkStmtsWrong)

/-- 'withelaw9.CheckLimits': WHATEVER THE INPUT: true; the input reads as it did. -/
def checkLimitsSpec : ChangeSpec := { name := "checkLimits", fn := fun _ => fun
  | [d1, d2, d3, d4] => { results := [.lit (.bool true)], args := [d1, d2, d3, d4] }
  | _ => none }
def checkLimitsRow : OpenClaim := { program := "ytlgnagmmljdkiab", sum := "5bb59c1e46449fc049ed236d79c23a12b832beacb9985660ad9f68d56f67dcd3", func := "withe/withelaw9.CheckLimits", spec := "checkLimits", unfollowed := true, recurses := true, apart := false }
def CheckLimitsSaid : Prop := checkLimitsRow.holds Try.pinned (OpenSpec.ofChange checkLimitsSpec)

/-- ITS FALSE NEIGHBOUR: 'it returns false'. Refute it at one input. -/
def checkLimitsWrong : ChangeSpec := { name := "checkLimits", fn := fun _ => fun
  | [d1, d2, d3, d4] => { results := [.lit (.bool false)], args := [d1, d2, d3, d4] }
  | _ => none }
def CheckLimitsWrongFalsely : Prop := checkLimitsRow.holds Try.pinned (OpenSpec.ofChange checkLimitsWrong)

/-- 'withelaw10.EvalAll': WHATEVER THE INPUT: true; the input reads as it did. -/
def evalAllSpec : ChangeSpec := { name := "evalAll", fn := fun _ => fun
  | [d1, d2, d3, d4] => { results := [.lit (.bool true)], args := [d1, d2, d3, d4] }
  | _ => none }
def evalAllRow : OpenClaim := { program := "ytlgnagmmljdkiab", sum := "5bb59c1e46449fc049ed236d79c23a12b832beacb9985660ad9f68d56f67dcd3", func := "withe/withelaw10.EvalAll", spec := "evalAll", unfollowed := true, recurses := true, loops := true, apart := false }
def EvalAllSaid : Prop := evalAllRow.holds Try.pinned (OpenSpec.ofChange evalAllSpec)

/-- ITS FALSE NEIGHBOUR: 'it returns false'. Refute it at one input. -/
def evalAllWrong : ChangeSpec := { name := "evalAll", fn := fun _ => fun
  | [d1, d2, d3, d4] => { results := [.lit (.bool false)], args := [d1, d2, d3, d4] }
  | _ => none }
def EvalAllWrongFalsely : Prop := evalAllRow.holds Try.pinned (OpenSpec.ofChange evalAllWrong)

/-- 'withelaw10.EvalMade': WHATEVER THE INPUT: true; the input reads as it did. -/
def evalMadeSpec : ChangeSpec := { name := "evalMade", fn := fun _ => fun
  | [d1, d2, d3, d4] => { results := [.lit (.bool true)], args := [d1, d2, d3, d4] }
  | _ => none }
def evalMadeRow : OpenClaim := { program := "ytlgnagmmljdkiab", sum := "5bb59c1e46449fc049ed236d79c23a12b832beacb9985660ad9f68d56f67dcd3", func := "withe/withelaw10.EvalMade", spec := "evalMade", unfollowed := true, recurses := true, apart := false }
def EvalMadeSaid : Prop := evalMadeRow.holds Try.pinned (OpenSpec.ofChange evalMadeSpec)

/-- ITS FALSE NEIGHBOUR: 'it returns false'. Refute it at one input. -/
def evalMadeWrong : ChangeSpec := { name := "evalMade", fn := fun _ => fun
  | [d1, d2, d3, d4] => { results := [.lit (.bool false)], args := [d1, d2, d3, d4] }
  | _ => none }
def EvalMadeWrongFalsely : Prop := evalMadeRow.holds Try.pinned (OpenSpec.ofChange evalMadeWrong)

/- THE SECOND FORM. 'bulk': how many values and letters a reading holds, each counted each time it is reached (what is shared counts as often as it is met; a slice's spare places count too). A statement '..UptoSaid' is the law's where the arguments, and the package variables that the reading takes, are together of bulk at most 1048576: NARROWER than '..Said'. Prove '..Said' where nothing that the law and all that it calls make is longer than what came in: it says more and counts as full. Else prove '..UptoSaid'. A law counts once. -/
mutual
def uptoBulk {H : Type} : DataW H → Nat
  | .lit (.string bytes) => bytes.length + 1
  | .lit _ => 1
  | .nil => 1
  | .ptr d => uptoBulk d + 1
  | .slice elems spare => uptoBulkAll elems + uptoBulkAll spare + 1
  | .agg parts => uptoBulkAll parts + 1
  | .iface _ d => uptoBulk d + 1
  | .map entries => uptoBulkEntries entries + 1
  | .held _ => 1
def uptoBulkAll {H : Type} : List (DataW H) → Nat
  | [] => 0
  | d :: r => uptoBulk d + uptoBulkAll r
def uptoBulkEntries {H : Type} : List (Lit × DataW H) → Nat
  | [] => 0
  | x :: r => uptoBulkEntry x + uptoBulkEntries r
def uptoBulkEntry {H : Type} : Lit × DataW H → Nat
  | (.string bytes, d) => bytes.length + uptoBulk d + 1
  | (_, d) => uptoBulk d + 1
 end
def uptoSmall : (H : Type) → List (DataW H) → Bool := fun _ ds => decide (uptoBulkAll ds ≤ 1048576)
def OpenSpec.upto (s : _root_.Go.ChangeSpec) : _root_.Go.OpenSpec := { _root_.Go.OpenSpec.ofChange s with cond := some uptoSmall }

/-- 'withelaw9.CheckMade', WHERE WHAT IT READS IS OF BULK AT MOST 1048576: true; the input reads as it did. -/
def checkMadeUptoRow : OpenClaim := { program := "ytlgnagmmljdkiab", sum := "5bb59c1e46449fc049ed236d79c23a12b832beacb9985660ad9f68d56f67dcd3", func := "withe/withelaw9.CheckMade", spec := "checkMade", unfollowed := true, recurses := true, apart := false, narrowed := true }
def CheckMadeUptoSaid : Prop := checkMadeUptoRow.holds Try.pinned (OpenSpec.upto checkMadeSpec)

/-- 'withelaw9.CheckInits', WHERE WHAT IT READS IS OF BULK AT MOST 1048576: true; the input reads as it did. -/
def checkInitsUptoRow : OpenClaim := { program := "ytlgnagmmljdkiab", sum := "5bb59c1e46449fc049ed236d79c23a12b832beacb9985660ad9f68d56f67dcd3", func := "withe/withelaw9.CheckInits", spec := "checkInits", unfollowed := true, recurses := true, apart := false, narrowed := true }
def CheckInitsUptoSaid : Prop := checkInitsUptoRow.holds Try.pinned (OpenSpec.upto checkInitsSpec)

/-- 'withelaw9.CheckStmts', WHERE WHAT IT READS IS OF BULK AT MOST 1048576: true; the input reads as it did. -/
def checkStmtsUptoRow : OpenClaim := { program := "ytlgnagmmljdkiab", sum := "5bb59c1e46449fc049ed236d79c23a12b832beacb9985660ad9f68d56f67dcd3", func := "withe/withelaw9.CheckStmts", spec := "checkStmts", unfollowed := true, recurses := true, apart := false, narrowed := true }
def CheckStmtsUptoSaid : Prop := checkStmtsUptoRow.holds Try.pinned (OpenSpec.upto checkStmtsSpec)

/-- 'withelaw9.CheckLimits', WHERE WHAT IT READS IS OF BULK AT MOST 1048576: true; the input reads as it did. -/
def checkLimitsUptoRow : OpenClaim := { program := "ytlgnagmmljdkiab", sum := "5bb59c1e46449fc049ed236d79c23a12b832beacb9985660ad9f68d56f67dcd3", func := "withe/withelaw9.CheckLimits", spec := "checkLimits", unfollowed := true, recurses := true, apart := false, narrowed := true }
def CheckLimitsUptoSaid : Prop := checkLimitsUptoRow.holds Try.pinned (OpenSpec.upto checkLimitsSpec)

/-- 'withelaw10.EvalAll', WHERE WHAT IT READS IS OF BULK AT MOST 1048576: true; the input reads as it did. -/
def evalAllUptoRow : OpenClaim := { program := "ytlgnagmmljdkiab", sum := "5bb59c1e46449fc049ed236d79c23a12b832beacb9985660ad9f68d56f67dcd3", func := "withe/withelaw10.EvalAll", spec := "evalAll", unfollowed := true, recurses := true, loops := true, apart := false, narrowed := true }
def EvalAllUptoSaid : Prop := evalAllUptoRow.holds Try.pinned (OpenSpec.upto evalAllSpec)

/-- 'withelaw10.EvalMade', WHERE WHAT IT READS IS OF BULK AT MOST 1048576: true; the input reads as it did. -/
def evalMadeUptoRow : OpenClaim := { program := "ytlgnagmmljdkiab", sum := "5bb59c1e46449fc049ed236d79c23a12b832beacb9985660ad9f68d56f67dcd3", func := "withe/withelaw10.EvalMade", spec := "evalMade", unfollowed := true, recurses := true, apart := false, narrowed := true }
def EvalMadeUptoSaid : Prop := evalMadeUptoRow.holds Try.pinned (OpenSpec.upto evalMadeSpec)

end Rows
end Go.Proofs.Ytlgnagmmljdkiab
