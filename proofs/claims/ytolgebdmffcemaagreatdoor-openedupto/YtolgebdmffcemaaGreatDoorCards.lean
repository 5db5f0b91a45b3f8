/-
  DERIVED. GIVEN WITH THE SEED: THE CARDS: each row of YtolgebdmffcemaaGreatDoorRows.lean that lists a variable, with what it lists TIED to the program's text (the seventh form; the later family's looks); each row that meets fmt, with fmt's text TOLD by the authors' own Lean function (tested against real Go, not proved from fmt's source: count such statements apart). THE CARD IS WHAT COUNTS. Prove the row's statement (the work); the ties are given (YtolgebdmffcemaaGreatDoorTie.lean); close each card by the builder's one call (the guide's Derived/Test/ToyasCard.lean, 'card_holds'). Laid BY PROGRAM, IN A SANDBOX (cutbox-door.mjs). By AI agents, Wed Nov 11 2026. No macro, syntax, notation, axiom, sorry.
-/
import Derived.Test.YtolgebdmffcemaaGreatDoorRows
import GoSem.ClaimSeven
namespace Go.Proofs.YtolgebdmffcemaaGreatDoor
namespace Rows

/-- THE TIED CARD OF 'graftlaw.Values'. -/
def valuesCard : Claim7 := { stood := { row := valuesRow, standIns := [], harness := (true, "6c0a22f8158bb5c008b80201c9bcd0df57109af4be262fec8374f53d097bbdbc"), looks := true }, kinds := [], alts := [], goes := true, laidByText := true, laidKinds := [.data, .data, .data, .data, .sentinel, .sentinel, .pinned], laidTests := true, laidLooks := .later }
def ValuesCardSaid : Prop := Claim7.holds Tryz.pinned (.plain (OpenSpec.ofChange valuesSpec)) valuesCard

/-- THE TIED CARD OF 'graftlaw.Commits'. -/
def commitsCard : Claim7 := { stood := { row := commitsRow, standIns := [], harness := (true, "6c0a22f8158bb5c008b80201c9bcd0df57109af4be262fec8374f53d097bbdbc"), looks := true }, kinds := [], alts := [], goes := true, laidByText := true, laidKinds := [.data, .data, .data, .data, .sentinel, .sentinel, .pinned], laidTests := true, laidLooks := .later }
def CommitsCardSaid : Prop := Claim7.holds Tryz.pinned (.plain (OpenSpec.ofChange commitsSpec)) commitsCard

/-- THE TIED CARD OF 'graftlaw.Joins'. -/
def joinsCard : Claim7 := { stood := { row := joinsRow, standIns := [], harness := (true, "6c0a22f8158bb5c008b80201c9bcd0df57109af4be262fec8374f53d097bbdbc"), looks := true }, kinds := [], alts := [], goes := true, laidByText := true, laidKinds := [.data, .data, .data, .data, .sentinel, .sentinel, .pinned], laidTests := true, laidLooks := .later }
def JoinsCardSaid : Prop := Claim7.holds Tryz.pinned (.plain (OpenSpec.ofChange joinsSpec)) joinsCard

/-- THE TIED CARD OF 'graftkeep.Either'. -/
def eitherCard : Claim7 := { stood := { row := eitherRow, standIns := [], harness := (true, "6c0a22f8158bb5c008b80201c9bcd0df57109af4be262fec8374f53d097bbdbc"), looks := true }, kinds := [], alts := [], goes := true, laidByText := true, laidKinds := [.data, .data, .data, .data, .sentinel, .sentinel, .pinned], laidTests := true, laidLooks := .later }
def EitherCardSaid : Prop := Claim7.holds Tryz.pinned (.plain (OpenSpec.ofChange eitherSpec)) eitherCard

/-- THE TIED CARD OF 'graftkeep.Summed'. -/
def summedCard : Claim7 := { stood := { row := summedRow, standIns := [], harness := (true, "6c0a22f8158bb5c008b80201c9bcd0df57109af4be262fec8374f53d097bbdbc"), looks := true }, kinds := [], alts := [], goes := true, laidByText := true, laidKinds := [.data, .data, .data, .data, .pinned], laidTests := true, laidLooks := .later }
def SummedCardSaid : Prop := Claim7.holds Tryz.pinned (.plain (OpenSpec.ofChange summedSpec)) summedCard

/-- THE TIED CARD OF 'graftkeep.Bagged'. -/
def baggedCard : Claim7 := { stood := { row := baggedRow, standIns := [], harness := (true, "6c0a22f8158bb5c008b80201c9bcd0df57109af4be262fec8374f53d097bbdbc"), looks := true }, kinds := [], alts := [], goes := true, laidByText := true, laidKinds := [.data, .data, .data, .data, .pinned], laidTests := true, laidLooks := .later }
def BaggedCardSaid : Prop := Claim7.holds Tryz.pinned (.plain (OpenSpec.ofChange baggedSpec)) baggedCard

/-- THE TIED CARD OF 'graftkeep.Stays'. -/
def staysCard : Claim7 := { stood := { row := staysRow, standIns := [], harness := (true, "6c0a22f8158bb5c008b80201c9bcd0df57109af4be262fec8374f53d097bbdbc"), looks := true }, kinds := [], alts := [], goes := true, laidByText := true, laidKinds := [.data, .data, .data, .data, .pinned], laidTests := true, laidLooks := .later }
def StaysCardSaid : Prop := Claim7.holds Tryz.pinned (.plain (OpenSpec.ofChange staysSpec)) staysCard

/-- THE TIED CARD OF 'graftkeep.Lined'. -/
def linedCard : Claim7 := { stood := { row := linedRow, standIns := [], harness := (true, "6c0a22f8158bb5c008b80201c9bcd0df57109af4be262fec8374f53d097bbdbc"), looks := true }, kinds := [], alts := [], goes := true, laidByText := true, laidKinds := [.data, .data, .data, .data, .pinned], laidTests := true, laidLooks := .later }
def LinedCardSaid : Prop := Claim7.holds Tryz.pinned (.plain (OpenSpec.ofChange linedSpec)) linedCard

/-- THE TIED CARD OF 'graftkeep.Opened'. -/
def openedCard : Claim7 := { stood := { row := openedRow, standIns := [], harness := (true, "6c0a22f8158bb5c008b80201c9bcd0df57109af4be262fec8374f53d097bbdbc"), looks := true }, kinds := [], alts := [], goes := true, laidByText := true, laidKinds := [.data, .data, .data, .data, .sentinel, .sentinel, .pinned], laidTests := true, laidLooks := .later }
def OpenedCardSaid : Prop := Claim7.holds Tryz.pinned (.plain (OpenSpec.ofChange openedSpec)) openedCard

/-- THE TIED CARD OF 'graftkeep.Refused'. -/
def refusedCard : Claim7 := { stood := { row := refusedRow, standIns := [], harness := (true, "6c0a22f8158bb5c008b80201c9bcd0df57109af4be262fec8374f53d097bbdbc"), looks := true }, kinds := [], alts := [], goes := true, laidByText := true, laidKinds := [.data, .data, .data, .data, .pinned], laidTests := true, laidLooks := .later }
def RefusedCardSaid : Prop := Claim7.holds Tryz.pinned (.plain (OpenSpec.ofChange refusedSpec)) refusedCard

/-- THE TIED CARD OF 'graftlaw.All'. -/
def allCard : Claim7 := { stood := { row := allRow, standIns := [], harness := (true, "6c0a22f8158bb5c008b80201c9bcd0df57109af4be262fec8374f53d097bbdbc"), looks := true }, kinds := [], alts := [], goes := true, laidByText := true, laidKinds := [.data, .data, .data, .data, .sentinel, .sentinel, .pinned], laidTests := true, laidLooks := .later }
def AllCardSaid : Prop := Claim7.holds Tryz.pinned (.plain (OpenSpec.ofChange allSpec)) allCard

/-- THE SECOND FORM's CARD OF 'graftlaw.Values'. -/
def valuesUptoCard : Claim7 := { stood := { row := valuesUptoRow, standIns := [], harness := (true, "6c0a22f8158bb5c008b80201c9bcd0df57109af4be262fec8374f53d097bbdbc"), looks := true }, kinds := [], alts := [], goes := true, laidByText := true, laidKinds := [.data, .data, .data, .data, .sentinel, .sentinel, .pinned], laidTests := true, laidLooks := .later }
def ValuesUptoCardSaid : Prop := Claim7.holds Tryz.pinned (.plain (OpenSpec.upto valuesSpec)) valuesUptoCard

/-- THE SECOND FORM's CARD OF 'graftlaw.Commits'. -/
def commitsUptoCard : Claim7 := { stood := { row := commitsUptoRow, standIns := [], harness := (true, "6c0a22f8158bb5c008b80201c9bcd0df57109af4be262fec8374f53d097bbdbc"), looks := true }, kinds := [], alts := [], goes := true, laidByText := true, laidKinds := [.data, .data, .data, .data, .sentinel, .sentinel, .pinned], laidTests := true, laidLooks := .later }
def CommitsUptoCardSaid : Prop := Claim7.holds Tryz.pinned (.plain (OpenSpec.upto commitsSpec)) commitsUptoCard

/-- THE SECOND FORM's CARD OF 'graftlaw.Joins'. -/
def joinsUptoCard : Claim7 := { stood := { row := joinsUptoRow, standIns := [], harness := (true, "6c0a22f8158bb5c008b80201c9bcd0df57109af4be262fec8374f53d097bbdbc"), looks := true }, kinds := [], alts := [], goes := true, laidByText := true, laidKinds := [.data, .data, .data, .data, .sentinel, .sentinel, .pinned], laidTests := true, laidLooks := .later }
def JoinsUptoCardSaid : Prop := Claim7.holds Tryz.pinned (.plain (OpenSpec.upto joinsSpec)) joinsUptoCard

/-- THE SECOND FORM's CARD OF 'graftkeep.Either'. -/
def eitherUptoCard : Claim7 := { stood := { row := eitherUptoRow, standIns := [], harness := (true, "6c0a22f8158bb5c008b80201c9bcd0df57109af4be262fec8374f53d097bbdbc"), looks := true }, kinds := [], alts := [], goes := true, laidByText := true, laidKinds := [.data, .data, .data, .data, .sentinel, .sentinel, .pinned], laidTests := true, laidLooks := .later }
def EitherUptoCardSaid : Prop := Claim7.holds Tryz.pinned (.plain (OpenSpec.upto eitherSpec)) eitherUptoCard

/-- THE SECOND FORM's CARD OF 'graftkeep.Summed'. -/
def summedUptoCard : Claim7 := { stood := { row := summedUptoRow, standIns := [], harness := (true, "6c0a22f8158bb5c008b80201c9bcd0df57109af4be262fec8374f53d097bbdbc"), looks := true }, kinds := [], alts := [], goes := true, laidByText := true, laidKinds := [.data, .data, .data, .data, .pinned], laidTests := true, laidLooks := .later }
def SummedUptoCardSaid : Prop := Claim7.holds Tryz.pinned (.plain (OpenSpec.upto summedSpec)) summedUptoCard

/-- THE SECOND FORM's CARD OF 'graftkeep.Bagged'. -/
def baggedUptoCard : Claim7 := { stood := { row := baggedUptoRow, standIns := [], harness := (true, "6c0a22f8158bb5c008b80201c9bcd0df57109af4be262fec8374f53d097bbdbc"), looks := true }, kinds := [], alts := [], goes := true, laidByText := true, laidKinds := [.data, .data, .data, .data, .pinned], laidTests := true, laidLooks := .later }
def BaggedUptoCardSaid : Prop := Claim7.holds Tryz.pinned (.plain (OpenSpec.upto baggedSpec)) baggedUptoCard

/-- THE SECOND FORM's CARD OF 'graftkeep.Stays'. -/
def staysUptoCard : Claim7 := { stood := { row := staysUptoRow, standIns := [], harness := (true, "6c0a22f8158bb5c008b80201c9bcd0df57109af4be262fec8374f53d097bbdbc"), looks := true }, kinds := [], alts := [], goes := true, laidByText := true, laidKinds := [.data, .data, .data, .data, .pinned], laidTests := true, laidLooks := .later }
def StaysUptoCardSaid : Prop := Claim7.holds Tryz.pinned (.plain (OpenSpec.upto staysSpec)) staysUptoCard

/-- THE SECOND FORM's CARD OF 'graftkeep.Lined'. -/
def linedUptoCard : Claim7 := { stood := { row := linedUptoRow, standIns := [], harness := (true, "6c0a22f8158bb5c008b80201c9bcd0df57109af4be262fec8374f53d097bbdbc"), looks := true }, kinds := [], alts := [], goes := true, laidByText := true, laidKinds := [.data, .data, .data, .data, .pinned], laidTests := true, laidLooks := .later }
def LinedUptoCardSaid : Prop := Claim7.holds Tryz.pinned (.plain (OpenSpec.upto linedSpec)) linedUptoCard

/-- THE SECOND FORM's CARD OF 'graftkeep.Opened'. -/
def openedUptoCard : Claim7 := { stood := { row := openedUptoRow, standIns := [], harness := (true, "6c0a22f8158bb5c008b80201c9bcd0df57109af4be262fec8374f53d097bbdbc"), looks := true }, kinds := [], alts := [], goes := true, laidByText := true, laidKinds := [.data, .data, .data, .data, .sentinel, .sentinel, .pinned], laidTests := true, laidLooks := .later }
def OpenedUptoCardSaid : Prop := Claim7.holds Tryz.pinned (.plain (OpenSpec.upto openedSpec)) openedUptoCard

/-- THE SECOND FORM's CARD OF 'graftkeep.Refused'. -/
def refusedUptoCard : Claim7 := { stood := { row := refusedUptoRow, standIns := [], harness := (true, "6c0a22f8158bb5c008b80201c9bcd0df57109af4be262fec8374f53d097bbdbc"), looks := true }, kinds := [], alts := [], goes := true, laidByText := true, laidKinds := [.data, .data, .data, .data, .pinned], laidTests := true, laidLooks := .later }
def RefusedUptoCardSaid : Prop := Claim7.holds Tryz.pinned (.plain (OpenSpec.upto refusedSpec)) refusedUptoCard

/-- THE SECOND FORM's CARD OF 'graftlaw.All'. -/
def allUptoCard : Claim7 := { stood := { row := allUptoRow, standIns := [], harness := (true, "6c0a22f8158bb5c008b80201c9bcd0df57109af4be262fec8374f53d097bbdbc"), looks := true }, kinds := [], alts := [], goes := true, laidByText := true, laidKinds := [.data, .data, .data, .data, .sentinel, .sentinel, .pinned], laidTests := true, laidLooks := .later }
def AllUptoCardSaid : Prop := Claim7.holds Tryz.pinned (.plain (OpenSpec.upto allSpec)) allUptoCard
end Rows
end Go.Proofs.YtolgebdmffcemaaGreatDoor
