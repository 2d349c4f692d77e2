/-
  DERIVED. GIVEN WITH THE SEED: THE CARDS: each row of YtobagnjnbmgidaaGreatDoorRows.lean that lists a variable, with what it lists TIED to the program's text (the seventh form; the later family's looks); each row that meets fmt, with fmt's text TOLD by the authors' own Lean function (tested against real Go, not proved from fmt's source: count such statements apart). THE CARD IS WHAT COUNTS. Prove the row's statement (the work); the ties are given (YtobagnjnbmgidaaGreatDoorTie.lean); close each card by the builder's one call (the guide's Derived/Test/ToyasCard.lean, 'card_holds'). Laid BY PROGRAM, IN A SANDBOX (cutbox-door.mjs). By AI agents, Wed Nov 11 2026. No macro, syntax, notation, axiom, sorry.
-/
import Derived.Test.YtobagnjnbmgidaaGreatDoorRows
import GoSem.ClaimSeven
namespace Go.Proofs.YtobagnjnbmgidaaGreatDoor
namespace Rows

/-- THE TIED CARD OF 'parapetlaw.Checks'. -/
def checksCard : Claim7 := { stood := { row := checksRow, standIns := [], harness := (true, "0c89c787d4b98a4316ae03ebdf8092ff43dc2c86c76f3ceb993ca0c048420df6"), looks := true }, kinds := [], alts := [], goes := true, laidByText := true, laidKinds := [.handle], laidTests := true, laidLooks := .later }
def ChecksCardSaid : Prop := Claim7.holds Tryz.pinned (.plain (OpenSpec.ofChange checksSpec)) checksCard

/-- THE TIED CARD OF 'parapetkeep.Unlayered'. -/
def unlayeredCard : Claim7 := { stood := { row := unlayeredRow, standIns := [], harness := (true, "0c89c787d4b98a4316ae03ebdf8092ff43dc2c86c76f3ceb993ca0c048420df6"), looks := true }, kinds := [], alts := [], goes := true, laidByText := true, laidKinds := [.handle], laidTests := true, laidLooks := .later }
def UnlayeredCardSaid : Prop := Claim7.holds Tryz.pinned (.plain (OpenSpec.ofChange unlayeredSpec)) unlayeredCard

/-- THE TIED CARD OF 'parapetkeep.Persistent'. -/
def persistentCard : Claim7 := { stood := { row := persistentRow, standIns := [], harness := (true, "0c89c787d4b98a4316ae03ebdf8092ff43dc2c86c76f3ceb993ca0c048420df6"), looks := true }, kinds := [], alts := [], goes := true, laidByText := true, laidKinds := [.handle], laidTests := true, laidLooks := .later }
def PersistentCardSaid : Prop := Claim7.holds Tryz.pinned (.plain (OpenSpec.ofChange persistentSpec)) persistentCard

/-- THE TIED CARD OF 'parapetlaw.Tries'. -/
def triesCard : Claim7 := { stood := { row := triesRow, standIns := [], harness := (true, "0c89c787d4b98a4316ae03ebdf8092ff43dc2c86c76f3ceb993ca0c048420df6"), looks := true }, kinds := [], alts := [], goes := true, laidByText := true, laidKinds := [.handle], laidTests := true, laidLooks := .later }
def TriesCardSaid : Prop := Claim7.holds Tryz.pinned (.plain (OpenSpec.ofChange triesSpec)) triesCard

/-- THE TIED CARD OF 'parapetlaw.Gates'. -/
def gatesCard : Claim7 := { stood := { row := gatesRow, standIns := [], harness := (true, "0c89c787d4b98a4316ae03ebdf8092ff43dc2c86c76f3ceb993ca0c048420df6"), looks := true }, kinds := [], alts := [], goes := true, laidByText := true, laidKinds := [.handle], laidTests := true, laidLooks := .later }
def GatesCardSaid : Prop := Claim7.holds Tryz.pinned (.plain (OpenSpec.ofChange gatesSpec)) gatesCard

/-- THE TIED CARD OF 'parapetlaw.Rooms'. -/
def roomsCard : Claim7 := { stood := { row := roomsRow, standIns := [], harness := (true, "0c89c787d4b98a4316ae03ebdf8092ff43dc2c86c76f3ceb993ca0c048420df6"), looks := true }, kinds := [], alts := [], goes := true, laidByText := true, laidKinds := [.handle], laidTests := true, laidLooks := .later }
def RoomsCardSaid : Prop := Claim7.holds Tryz.pinned (.plain (OpenSpec.ofChange roomsSpec)) roomsCard

/-- THE TIED CARD OF 'parapetlaw.Runs'. -/
def runsCard : Claim7 := { stood := { row := runsRow, standIns := [], harness := (true, "0c89c787d4b98a4316ae03ebdf8092ff43dc2c86c76f3ceb993ca0c048420df6"), looks := true }, kinds := [], alts := [], goes := true, laidByText := true, laidKinds := [.handle], laidTests := true, laidLooks := .later }
def RunsCardSaid : Prop := Claim7.holds Tryz.pinned (.plain (OpenSpec.ofChange runsSpec)) runsCard

/-- THE TIED CARD OF 'parapetkeep.Answered'. -/
def answeredCard : Claim7 := { stood := { row := answeredRow, standIns := [], harness := (true, "0c89c787d4b98a4316ae03ebdf8092ff43dc2c86c76f3ceb993ca0c048420df6"), looks := true }, kinds := [], alts := [], goes := true, laidByText := true, laidKinds := [.handle], laidTests := true, laidLooks := .later }
def AnsweredCardSaid : Prop := Claim7.holds Tryz.pinned (.plain (OpenSpec.ofChange answeredSpec)) answeredCard

/-- THE TIED CARD OF 'parapetkeep.Roomy'. -/
def roomyCard : Claim7 := { stood := { row := roomyRow, standIns := [], harness := (true, "0c89c787d4b98a4316ae03ebdf8092ff43dc2c86c76f3ceb993ca0c048420df6"), looks := true }, kinds := [], alts := [], goes := true, laidByText := true, laidKinds := [.handle], laidTests := true, laidLooks := .later }
def RoomyCardSaid : Prop := Claim7.holds Tryz.pinned (.plain (OpenSpec.ofChange roomySpec)) roomyCard

/-- THE TIED CARD OF 'parapetkeep.Rated'. -/
def ratedCard : Claim7 := { stood := { row := ratedRow, standIns := [], harness := (true, "0c89c787d4b98a4316ae03ebdf8092ff43dc2c86c76f3ceb993ca0c048420df6"), looks := true }, kinds := [], alts := [], goes := true, laidByText := true, laidKinds := [.handle], laidTests := true, laidLooks := .later }
def RatedCardSaid : Prop := Claim7.holds Tryz.pinned (.plain (OpenSpec.ofChange ratedSpec)) ratedCard

/-- THE TIED CARD OF 'parapetkeep.Broken'. -/
def brokenCard : Claim7 := { stood := { row := brokenRow, standIns := [], harness := (true, "0c89c787d4b98a4316ae03ebdf8092ff43dc2c86c76f3ceb993ca0c048420df6"), looks := true }, kinds := [], alts := [], goes := true, laidByText := true, laidKinds := [.handle], laidTests := true, laidLooks := .later }
def BrokenCardSaid : Prop := Claim7.holds Tryz.pinned (.plain (OpenSpec.ofChange brokenSpec)) brokenCard

/-- THE TIED CARD OF 'parapetkeep.Guarded'. -/
def guardedCard : Claim7 := { stood := { row := guardedRow, standIns := [], harness := (true, "0c89c787d4b98a4316ae03ebdf8092ff43dc2c86c76f3ceb993ca0c048420df6"), looks := true }, kinds := [], alts := [], goes := true, laidByText := true, laidKinds := [.handle], laidTests := true, laidLooks := .later }
def GuardedCardSaid : Prop := Claim7.holds Tryz.pinned (.plain (OpenSpec.ofChange guardedSpec)) guardedCard

/-- THE SECOND FORM's CARD OF 'parapetlaw.Checks'. -/
def checksUptoCard : Claim7 := { stood := { row := checksUptoRow, standIns := [], harness := (true, "0c89c787d4b98a4316ae03ebdf8092ff43dc2c86c76f3ceb993ca0c048420df6"), looks := true }, kinds := [], alts := [], goes := true, laidByText := true, laidKinds := [.handle], laidTests := true, laidLooks := .later }
def ChecksUptoCardSaid : Prop := Claim7.holds Tryz.pinned (.plain (OpenSpec.upto checksSpec)) checksUptoCard

/-- THE SECOND FORM's CARD OF 'parapetkeep.Unlayered'. -/
def unlayeredUptoCard : Claim7 := { stood := { row := unlayeredUptoRow, standIns := [], harness := (true, "0c89c787d4b98a4316ae03ebdf8092ff43dc2c86c76f3ceb993ca0c048420df6"), looks := true }, kinds := [], alts := [], goes := true, laidByText := true, laidKinds := [.handle], laidTests := true, laidLooks := .later }
def UnlayeredUptoCardSaid : Prop := Claim7.holds Tryz.pinned (.plain (OpenSpec.upto unlayeredSpec)) unlayeredUptoCard

/-- THE SECOND FORM's CARD OF 'parapetkeep.Persistent'. -/
def persistentUptoCard : Claim7 := { stood := { row := persistentUptoRow, standIns := [], harness := (true, "0c89c787d4b98a4316ae03ebdf8092ff43dc2c86c76f3ceb993ca0c048420df6"), looks := true }, kinds := [], alts := [], goes := true, laidByText := true, laidKinds := [.handle], laidTests := true, laidLooks := .later }
def PersistentUptoCardSaid : Prop := Claim7.holds Tryz.pinned (.plain (OpenSpec.upto persistentSpec)) persistentUptoCard

/-- THE SECOND FORM's CARD OF 'parapetlaw.Tries'. -/
def triesUptoCard : Claim7 := { stood := { row := triesUptoRow, standIns := [], harness := (true, "0c89c787d4b98a4316ae03ebdf8092ff43dc2c86c76f3ceb993ca0c048420df6"), looks := true }, kinds := [], alts := [], goes := true, laidByText := true, laidKinds := [.handle], laidTests := true, laidLooks := .later }
def TriesUptoCardSaid : Prop := Claim7.holds Tryz.pinned (.plain (OpenSpec.upto triesSpec)) triesUptoCard

/-- THE SECOND FORM's CARD OF 'parapetlaw.Gates'. -/
def gatesUptoCard : Claim7 := { stood := { row := gatesUptoRow, standIns := [], harness := (true, "0c89c787d4b98a4316ae03ebdf8092ff43dc2c86c76f3ceb993ca0c048420df6"), looks := true }, kinds := [], alts := [], goes := true, laidByText := true, laidKinds := [.handle], laidTests := true, laidLooks := .later }
def GatesUptoCardSaid : Prop := Claim7.holds Tryz.pinned (.plain (OpenSpec.upto gatesSpec)) gatesUptoCard

/-- THE SECOND FORM's CARD OF 'parapetlaw.Rooms'. -/
def roomsUptoCard : Claim7 := { stood := { row := roomsUptoRow, standIns := [], harness := (true, "0c89c787d4b98a4316ae03ebdf8092ff43dc2c86c76f3ceb993ca0c048420df6"), looks := true }, kinds := [], alts := [], goes := true, laidByText := true, laidKinds := [.handle], laidTests := true, laidLooks := .later }
def RoomsUptoCardSaid : Prop := Claim7.holds Tryz.pinned (.plain (OpenSpec.upto roomsSpec)) roomsUptoCard

/-- THE SECOND FORM's CARD OF 'parapetlaw.Runs'. -/
def runsUptoCard : Claim7 := { stood := { row := runsUptoRow, standIns := [], harness := (true, "0c89c787d4b98a4316ae03ebdf8092ff43dc2c86c76f3ceb993ca0c048420df6"), looks := true }, kinds := [], alts := [], goes := true, laidByText := true, laidKinds := [.handle], laidTests := true, laidLooks := .later }
def RunsUptoCardSaid : Prop := Claim7.holds Tryz.pinned (.plain (OpenSpec.upto runsSpec)) runsUptoCard

/-- THE SECOND FORM's CARD OF 'parapetkeep.Answered'. -/
def answeredUptoCard : Claim7 := { stood := { row := answeredUptoRow, standIns := [], harness := (true, "0c89c787d4b98a4316ae03ebdf8092ff43dc2c86c76f3ceb993ca0c048420df6"), looks := true }, kinds := [], alts := [], goes := true, laidByText := true, laidKinds := [.handle], laidTests := true, laidLooks := .later }
def AnsweredUptoCardSaid : Prop := Claim7.holds Tryz.pinned (.plain (OpenSpec.upto answeredSpec)) answeredUptoCard

/-- THE SECOND FORM's CARD OF 'parapetkeep.Roomy'. -/
def roomyUptoCard : Claim7 := { stood := { row := roomyUptoRow, standIns := [], harness := (true, "0c89c787d4b98a4316ae03ebdf8092ff43dc2c86c76f3ceb993ca0c048420df6"), looks := true }, kinds := [], alts := [], goes := true, laidByText := true, laidKinds := [.handle], laidTests := true, laidLooks := .later }
def RoomyUptoCardSaid : Prop := Claim7.holds Tryz.pinned (.plain (OpenSpec.upto roomySpec)) roomyUptoCard

/-- THE SECOND FORM's CARD OF 'parapetkeep.Rated'. -/
def ratedUptoCard : Claim7 := { stood := { row := ratedUptoRow, standIns := [], harness := (true, "0c89c787d4b98a4316ae03ebdf8092ff43dc2c86c76f3ceb993ca0c048420df6"), looks := true }, kinds := [], alts := [], goes := true, laidByText := true, laidKinds := [.handle], laidTests := true, laidLooks := .later }
def RatedUptoCardSaid : Prop := Claim7.holds Tryz.pinned (.plain (OpenSpec.upto ratedSpec)) ratedUptoCard

/-- THE SECOND FORM's CARD OF 'parapetkeep.Broken'. -/
def brokenUptoCard : Claim7 := { stood := { row := brokenUptoRow, standIns := [], harness := (true, "0c89c787d4b98a4316ae03ebdf8092ff43dc2c86c76f3ceb993ca0c048420df6"), looks := true }, kinds := [], alts := [], goes := true, laidByText := true, laidKinds := [.handle], laidTests := true, laidLooks := .later }
def BrokenUptoCardSaid : Prop := Claim7.holds Tryz.pinned (.plain (OpenSpec.upto brokenSpec)) brokenUptoCard

/-- THE SECOND FORM's CARD OF 'parapetkeep.Guarded'. -/
def guardedUptoCard : Claim7 := { stood := { row := guardedUptoRow, standIns := [], harness := (true, "0c89c787d4b98a4316ae03ebdf8092ff43dc2c86c76f3ceb993ca0c048420df6"), looks := true }, kinds := [], alts := [], goes := true, laidByText := true, laidKinds := [.handle], laidTests := true, laidLooks := .later }
def GuardedUptoCardSaid : Prop := Claim7.holds Tryz.pinned (.plain (OpenSpec.upto guardedSpec)) guardedUptoCard
end Rows
end Go.Proofs.YtobagnjnbmgidaaGreatDoor
