/-
  DERIVED. GIVEN WITH THE SEED: THE CARDS: each row of YtojlbiaedhkddaaGreatDoorRows.lean that lists a variable, with what it lists TIED to the program's text (the seventh form; the later family's looks); each row that meets fmt, with fmt's text TOLD by the authors' own Lean function (tested against real Go, not proved from fmt's source: count such statements apart). THE CARD IS WHAT COUNTS. Prove the row's statement (the work); the ties are given (YtojlbiaedhkddaaGreatDoorTie.lean); close each card by the builder's one call (the guide's Derived/Test/ToyasCard.lean, 'card_holds'). Laid BY PROGRAM, IN A SANDBOX (cutbox-door.mjs). By AI agents, Wed Nov 11 2026. No macro, syntax, notation, axiom, sorry.
-/
import Derived.Test.YtojlbiaedhkddaaGreatDoorRows
import GoSem.ClaimSeven
namespace Go.Proofs.YtojlbiaedhkddaaGreatDoor
namespace Rows

/-- THE TIED CARD OF 'graftlaw.Values'. -/
def valuesCard : Claim7 := { stood := { row := valuesRow, standIns := [], harness := (true, "dc9423e5c63efe60c8ae1e504c4e1fda874c78f3ef4b1c5fa1eb646c5fcc857f"), looks := false }, kinds := [], alts := [], goes := true, laidByText := true, laidKinds := [.data, .data, .data, .data, .pinned], laidTests := true, laidLooks := .later }
def ValuesCardSaid : Prop := Claim7.holds Tryz.pinned (.plain (OpenSpec.ofChange valuesSpec)) valuesCard

/-- THE TIED CARD OF 'graftlaw.Commits'. -/
def commitsCard : Claim7 := { stood := { row := commitsRow, standIns := [], harness := (true, "dc9423e5c63efe60c8ae1e504c4e1fda874c78f3ef4b1c5fa1eb646c5fcc857f"), looks := false }, kinds := [], alts := [], goes := true, laidByText := true, laidKinds := [.data, .data, .data, .data, .pinned], laidTests := true, laidLooks := .later }
def CommitsCardSaid : Prop := Claim7.holds Tryz.pinned (.plain (OpenSpec.ofChange commitsSpec)) commitsCard

/-- THE SECOND FORM's CARD OF 'graftlaw.Values'. -/
def valuesUptoCard : Claim7 := { stood := { row := valuesUptoRow, standIns := [], harness := (true, "dc9423e5c63efe60c8ae1e504c4e1fda874c78f3ef4b1c5fa1eb646c5fcc857f"), looks := false }, kinds := [], alts := [], goes := true, laidByText := true, laidKinds := [.data, .data, .data, .data, .pinned], laidTests := true, laidLooks := .later }
def ValuesUptoCardSaid : Prop := Claim7.holds Tryz.pinned (.plain (OpenSpec.upto valuesSpec)) valuesUptoCard

/-- THE SECOND FORM's CARD OF 'graftlaw.Commits'. -/
def commitsUptoCard : Claim7 := { stood := { row := commitsUptoRow, standIns := [], harness := (true, "dc9423e5c63efe60c8ae1e504c4e1fda874c78f3ef4b1c5fa1eb646c5fcc857f"), looks := false }, kinds := [], alts := [], goes := true, laidByText := true, laidKinds := [.data, .data, .data, .data, .pinned], laidTests := true, laidLooks := .later }
def CommitsUptoCardSaid : Prop := Claim7.holds Tryz.pinned (.plain (OpenSpec.upto commitsSpec)) commitsUptoCard
end Rows
end Go.Proofs.YtojlbiaedhkddaaGreatDoor
