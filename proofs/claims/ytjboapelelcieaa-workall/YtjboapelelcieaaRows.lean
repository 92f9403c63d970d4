/-
  No cell of these rows narrows 'for every input' (looked for: loops, veiled, ifaces, maps, wideKeys, modest, calm, conditions, laid).
  DERIVED. THE GIVEN ROWS OF THIS SEAT. 4 by the template 'for every input the law returns true; each argument reads behind the call as it read before'; 0 by the template 'total and deterministic' (their statements: YtjboapelelcieaaTotals.lean).
  GIVEN WITH THE SEED: the statements are not yours to turn. If you find one false, say at which input.
  Laid BY PROGRAM, IN A SANDBOX (cutbox-rows.mjs): the forced cells as the released guide's own fill.sh prints them over the translation 04060f677c6bddc0… (all of the seat's roots in one cut). By AI agents, Wed Nov 11 2026. No macro, syntax, notation, axiom, sorry.
-/
import Derived.Test.YtjboapelelcieaaChecked
import GoSem.Claim
import GoSem.ClaimJoined
import GoSem.ClaimMapViews
import Derived.JoinedTies
import Derived.KernelRfl
namespace Go.Proofs.Ytjboapelelcieaa
/- THE CELL 'sum', in the pinned program and in every row, IS THE sha256 OF THE DUMP (.gsa) THAT YtjboapelelcieaaProg.lean LOADS. Nothing in Lean hashes anything: it is a label: what it is worth is what the hold of that sum in a sandbox is worth. -/
noncomputable def Try.pinned : Pinned := { name := "ytjboapelelcieaa", sum := "04060f677c6bddc098b47823b07a8dc4573bb3f85832cffd78f949bc57fd80d1", checked := Try.checked }
namespace Rows
def none {H : Type} : Left H := { results := [], args := [] }

/-- 'withelaw4.WorkAll': WHATEVER THE INPUT: true; the input reads as it did. -/
def workAllSpec : ChangeSpec := { name := "workAll", fn := fun _ => fun
  | [d1, d2] => { results := [.lit (.bool true)], args := [d1, d2] }
  | _ => none }
def workAllRow : OpenClaim := { program := "ytjboapelelcieaa", sum := "04060f677c6bddc098b47823b07a8dc4573bb3f85832cffd78f949bc57fd80d1", func := "withe/withelaw4.WorkAll", spec := "workAll", unfollowed := true, recurses := true, apart := false }
def WorkAllSaid : Prop := workAllRow.holds Try.pinned (OpenSpec.ofChange workAllSpec)

/-- ITS FALSE NEIGHBOUR: 'it returns false'. Refute it at one input. -/
def workAllWrong : ChangeSpec := { name := "workAll", fn := fun _ => fun
  | [d1, d2] => { results := [.lit (.bool false)], args := [d1, d2] }
  | _ => none }
def WorkAllWrongFalsely : Prop := workAllRow.holds Try.pinned (OpenSpec.ofChange workAllWrong)

/-- 'withelaw4.WorkKeeps': WHATEVER THE INPUT: true; the input reads as it did. -/
def workKeepsSpec : ChangeSpec := { name := "workKeeps", fn := fun _ => fun
  | [d1, d2] => { results := [.lit (.bool true)], args := [d1, d2] }
  | _ => none }
def workKeepsRow : OpenClaim := { program := "ytjboapelelcieaa", sum := "04060f677c6bddc098b47823b07a8dc4573bb3f85832cffd78f949bc57fd80d1", func := "withe/withelaw4.WorkKeeps", spec := "workKeeps", unfollowed := true, recurses := true, apart := false }
def WorkKeepsSaid : Prop := workKeepsRow.holds Try.pinned (OpenSpec.ofChange workKeepsSpec)

/-- ITS FALSE NEIGHBOUR: 'it returns false'. Refute it at one input. -/
def workKeepsWrong : ChangeSpec := { name := "workKeeps", fn := fun _ => fun
  | [d1, d2] => { results := [.lit (.bool false)], args := [d1, d2] }
  | _ => none }
def WorkKeepsWrongFalsely : Prop := workKeepsRow.holds Try.pinned (OpenSpec.ofChange workKeepsWrong)

/-- 'withelaw4.WorkPlain': WHATEVER THE INPUT: true; the input reads as it did. -/
def workPlainSpec : ChangeSpec := { name := "workPlain", fn := fun _ => fun
  | [d1, d2] => { results := [.lit (.bool true)], args := [d1, d2] }
  | _ => none }
def workPlainRow : OpenClaim := { program := "ytjboapelelcieaa", sum := "04060f677c6bddc098b47823b07a8dc4573bb3f85832cffd78f949bc57fd80d1", func := "withe/withelaw4.WorkPlain", spec := "workPlain", unfollowed := true, recurses := true, apart := false }
def WorkPlainSaid : Prop := workPlainRow.holds Try.pinned (OpenSpec.ofChange workPlainSpec)

/-- ITS FALSE NEIGHBOUR: 'it returns false'. Refute it at one input. -/
def workPlainWrong : ChangeSpec := { name := "workPlain", fn := fun _ => fun
  | [d1, d2] => { results := [.lit (.bool false)], args := [d1, d2] }
  | _ => none }
def WorkPlainWrongFalsely : Prop := workPlainRow.holds Try.pinned (OpenSpec.ofChange workPlainWrong)

/-- 'withelaw4.WorkNil': WHATEVER THE INPUT: true; the input reads as it did. -/
def workNilSpec : ChangeSpec := { name := "workNil", fn := fun _ => fun
  | [d] => { results := [.lit (.bool true)], args := [d] }
  | _ => none }
def workNilRow : OpenClaim := { program := "ytjboapelelcieaa", sum := "04060f677c6bddc098b47823b07a8dc4573bb3f85832cffd78f949bc57fd80d1", func := "withe/withelaw4.WorkNil", spec := "workNil", unfollowed := true, recurses := true, apart := false }
def WorkNilSaid : Prop := workNilRow.holds Try.pinned (OpenSpec.ofChange workNilSpec)

/-- ITS FALSE NEIGHBOUR: 'it returns false'. Refute it at one input. -/
def workNilWrong : ChangeSpec := { name := "workNil", fn := fun _ => fun
  | [d] => { results := [.lit (.bool false)], args := [d] }
  | _ => none }
def WorkNilWrongFalsely : Prop := workNilRow.holds Try.pinned (OpenSpec.ofChange workNilWrong)

/- THE SECOND FORM. 'bulk': how many values and letters a reading holds, each counted each time it is reached (what is shared counts as often as it is met; a slice's spare places count too). A statement '..UptoSaid' is the law's where the arguments, and the package variables that the reading takes, are together of bulk at most 1048576: NARROWER than '..Said'. Prove '..Said' where nothing that the law and all that it calls make is longer than what came in: it says more and counts as full. Else prove '..UptoSaid'. A law counts once. -/
mutual
def uptoBulk {H : Type} : DataW H → Nat
  | .lit (.string bytes) => bytes.length + 1
  | .lit _ => 1
  | .nil => 1
  | .ptr d => uptoBulk d + 1
  | .slice elems spare => uptoBulkAll elems + uptoBulkAll spare + 1
  | .agg parts => uptoBulkAll parts + 1
  | .iface _ d => uptoBulk d + 1
  | .map entries => uptoBulkEntries entries + 1
  | .held _ => 1
def uptoBulkAll {H : Type} : List (DataW H) → Nat
  | [] => 0
  | d :: r => uptoBulk d + uptoBulkAll r
def uptoBulkEntries {H : Type} : List (Lit × DataW H) → Nat
  | [] => 0
  | x :: r => uptoBulkEntry x + uptoBulkEntries r
def uptoBulkEntry {H : Type} : Lit × DataW H → Nat
  | (.string bytes, d) => bytes.length + uptoBulk d + 1
  | (_, d) => uptoBulk d + 1
 end
def uptoSmall : (H : Type) → List (DataW H) → Bool := fun _ ds => decide (uptoBulkAll ds ≤ 1048576)
def OpenSpec.upto (s : _root_.Go.ChangeSpec) : _root_.Go.OpenSpec := { _root_.Go.OpenSpec.ofChange s with cond := some uptoSmall }

/-- 'withelaw4.WorkAll', WHERE WHAT IT READS IS OF BULK AT MOST 1048576: true; the input reads as it did. -/
def workAllUptoRow : OpenClaim := { program := "ytjboapelelcieaa", sum := "04060f677c6bddc098b47823b07a8dc4573bb3f85832cffd78f949bc57fd80d1", func := "withe/withelaw4.WorkAll", spec := "workAll", unfollowed := true, recurses := true, apart := false, narrowed := true }
def WorkAllUptoSaid : Prop := workAllUptoRow.holds Try.pinned (OpenSpec.upto workAllSpec)

/-- 'withelaw4.WorkKeeps', WHERE WHAT IT READS IS OF BULK AT MOST 1048576: true; the input reads as it did. -/
def workKeepsUptoRow : OpenClaim := { program := "ytjboapelelcieaa", sum := "04060f677c6bddc098b47823b07a8dc4573bb3f85832cffd78f949bc57fd80d1", func := "withe/withelaw4.WorkKeeps", spec := "workKeeps", unfollowed := true, recurses := true, apart := false, narrowed := true }
def WorkKeepsUptoSaid : Prop := workKeepsUptoRow.holds Try.pinned (OpenSpec.upto workKeepsSpec)

/-- 'withelaw4.WorkPlain', WHERE WHAT IT READS IS OF BULK AT MOST 1048576: true; the input reads as it did. -/
def workPlainUptoRow : OpenClaim := { program := "ytjboapelelcieaa", sum := "04060f677c6bddc098b47823b07a8dc4573bb3f85832cffd78f949bc57fd80d1", func := "withe/withelaw4.WorkPlain", spec := "workPlain", unfollowed := true, recurses := true, apart := false, narrowed := true }
def WorkPlainUptoSaid : Prop := workPlainUptoRow.holds Try.pinned (OpenSpec.upto workPlainSpec)

/-- 'withelaw4.WorkNil', WHERE WHAT IT READS IS OF BULK AT MOST 1048576: true; the input reads as it did. -/
def workNilUptoRow : OpenClaim := { program := "ytjboapelelcieaa", sum := "04060f677c6bddc098b47823b07a8dc4573bb3f85832cffd78f949bc57fd80d1", func := "withe/withelaw4.WorkNil", spec := "workNil", unfollowed := true, recurses := true, apart := false, narrowed := true }
def WorkNilUptoSaid : Prop := workNilUptoRow.holds Try.pinned (OpenSpec.upto workNilSpec)

end Rows
end Go.Proofs.Ytjboapelelcieaa
