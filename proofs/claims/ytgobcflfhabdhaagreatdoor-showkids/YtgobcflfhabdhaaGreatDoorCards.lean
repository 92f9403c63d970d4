/-
  DERIVED. GIVEN WITH THE SEED: THE CARDS: each row of YtgobcflfhabdhaaGreatDoorRows.lean that lists a variable, with what it lists TIED to the program's text (the seventh form; the later family's looks); each row that meets fmt, with fmt's text TOLD by the authors' own Lean function (tested against real Go, not proved from fmt's source: count such statements apart). THE CARD IS WHAT COUNTS. Prove the row's statement (the work); the ties are given (YtgobcflfhabdhaaGreatDoorTie.lean); close each card by the builder's one call (the guide's Derived/Test/ToyasCard.lean, 'card_holds'). Laid BY PROGRAM, IN A SANDBOX (cutbox-door.mjs). By AI agents, Wed Nov 11 2026. No macro, syntax, notation, axiom, sorry.
-/
import Derived.Test.YtgobcflfhabdhaaGreatDoorRows
import GoSem.ClaimSeven
namespace Go.Proofs.YtgobcflfhabdhaaGreatDoor
namespace Rows

/-- THE TIED CARD OF 'withelaw8.ShowBack'. -/
def showBackCard : Claim7 := { stood := { row := showBackRow, standIns := [], harness := (true, "db6cb718a49b90a129e6c6c9c486142552668b21b40b4605748ce9abae63bbc9"), looks := false }, kinds := [], alts := [], laidByText := true, laidKinds := [.data, .data, .data], laidTests := true, laidLooks := .later }
def ShowBackCardSaid : Prop := Claim7.holds Tryz.pinned (.plain (OpenSpec.ofChange showBackSpec)) showBackCard

/-- THE TIED CARD OF 'withelaw8.ShowRead'. -/
def showReadCard : Claim7 := { stood := { row := showReadRow, standIns := [], harness := (true, "db6cb718a49b90a129e6c6c9c486142552668b21b40b4605748ce9abae63bbc9"), looks := false }, kinds := [], alts := [], laidByText := true, laidKinds := [.data, .data, .data], laidTests := true, laidLooks := .later }
def ShowReadCardSaid : Prop := Claim7.holds Tryz.pinned (.plain (OpenSpec.ofChange showReadSpec)) showReadCard

/-- THE TIED CARD OF 'withelaw8.ShowKids'. -/
def showKidsCard : Claim7 := { stood := { row := showKidsRow, standIns := [], harness := (true, "db6cb718a49b90a129e6c6c9c486142552668b21b40b4605748ce9abae63bbc9"), looks := false }, kinds := [], alts := [], laidByText := true, laidKinds := [.data, .data, .data], laidTests := true, laidLooks := .later }
def ShowKidsCardSaid : Prop := Claim7.holds Tryz.pinned (.plain (OpenSpec.ofChange showKidsSpec)) showKidsCard

/-- THE SECOND FORM's CARD OF 'withelaw8.ShowBack'. -/
def showBackUptoCard : Claim7 := { stood := { row := showBackUptoRow, standIns := [], harness := (true, "db6cb718a49b90a129e6c6c9c486142552668b21b40b4605748ce9abae63bbc9"), looks := false }, kinds := [], alts := [], laidByText := true, laidKinds := [.data, .data, .data], laidTests := true, laidLooks := .later }
def ShowBackUptoCardSaid : Prop := Claim7.holds Tryz.pinned (.plain (OpenSpec.upto showBackSpec)) showBackUptoCard

/-- THE SECOND FORM's CARD OF 'withelaw8.ShowRead'. -/
def showReadUptoCard : Claim7 := { stood := { row := showReadUptoRow, standIns := [], harness := (true, "db6cb718a49b90a129e6c6c9c486142552668b21b40b4605748ce9abae63bbc9"), looks := false }, kinds := [], alts := [], laidByText := true, laidKinds := [.data, .data, .data], laidTests := true, laidLooks := .later }
def ShowReadUptoCardSaid : Prop := Claim7.holds Tryz.pinned (.plain (OpenSpec.upto showReadSpec)) showReadUptoCard

/-- THE SECOND FORM's CARD OF 'withelaw8.ShowKids'. -/
def showKidsUptoCard : Claim7 := { stood := { row := showKidsUptoRow, standIns := [], harness := (true, "db6cb718a49b90a129e6c6c9c486142552668b21b40b4605748ce9abae63bbc9"), looks := false }, kinds := [], alts := [], laidByText := true, laidKinds := [.data, .data, .data], laidTests := true, laidLooks := .later }
def ShowKidsUptoCardSaid : Prop := Claim7.holds Tryz.pinned (.plain (OpenSpec.upto showKidsSpec)) showKidsUptoCard
end Rows
end Go.Proofs.YtgobcflfhabdhaaGreatDoor
