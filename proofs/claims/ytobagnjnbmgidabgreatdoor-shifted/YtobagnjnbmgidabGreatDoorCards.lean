/-
  DERIVED. GIVEN WITH THE SEED: THE CARDS: each row of YtobagnjnbmgidabGreatDoorRows.lean that lists a variable, with what it lists TIED to the program's text (the seventh form; the later family's looks); each row that meets fmt, with fmt's text TOLD by the authors' own Lean function (tested against real Go, not proved from fmt's source: count such statements apart). THE CARD IS WHAT COUNTS. Prove the row's statement (the work); the ties are given (YtobagnjnbmgidabGreatDoorTie.lean); close each card by the builder's one call (the guide's Derived/Test/ToyasCard.lean, 'card_holds'). Laid BY PROGRAM, IN A SANDBOX (cutbox-door.mjs). By AI agents, Wed Nov 11 2026. No macro, syntax, notation, axiom, sorry.
-/
import Derived.Test.YtobagnjnbmgidabGreatDoorRows
import GoSem.ClaimSeven
namespace Go.Proofs.YtobagnjnbmgidabGreatDoor
namespace Rows

/-- THE TIED CARD OF 'parapetkeep.Timely'. -/
def timelyCard : Claim7 := { stood := { row := timelyRow, standIns := [], harness := (true, "981e6123a7351ba24562891c5e2a9b983ceb7d0ee9c5e23d0e8a788c82beaf16"), looks := true }, kinds := [], alts := [], goes := true, laidByText := true, laidKinds := [.handle], laidTests := true, laidLooks := .later }
def TimelyCardSaid : Prop := Claim7.holds Tryz.pinned (.plain (OpenSpec.ofChange timelySpec)) timelyCard

/-- THE TIED CARD OF 'parapetkeep.Shifted'. -/
def shiftedCard : Claim7 := { stood := { row := shiftedRow, standIns := [], harness := (true, "981e6123a7351ba24562891c5e2a9b983ceb7d0ee9c5e23d0e8a788c82beaf16"), looks := true }, kinds := [], alts := [], goes := true, laidByText := true, laidKinds := [.handle], laidTests := true, laidLooks := .later }
def ShiftedCardSaid : Prop := Claim7.holds Tryz.pinned (.plain (OpenSpec.ofChange shiftedSpec)) shiftedCard

/-- THE TIED CARD OF 'parapetkeep.Apart'. -/
def apartCard : Claim7 := { stood := { row := apartRow, standIns := [], harness := (true, "981e6123a7351ba24562891c5e2a9b983ceb7d0ee9c5e23d0e8a788c82beaf16"), looks := true }, kinds := [], alts := [], goes := true, laidByText := true, laidKinds := [.handle], laidTests := true, laidLooks := .later }
def ApartCardSaid : Prop := Claim7.holds Tryz.pinned (.plain (OpenSpec.ofChange apartSpec)) apartCard

/-- THE TIED CARD OF 'parapetlaw.All'. -/
def allCard : Claim7 := { stood := { row := allRow, standIns := [], harness := (true, "981e6123a7351ba24562891c5e2a9b983ceb7d0ee9c5e23d0e8a788c82beaf16"), looks := true }, kinds := [], alts := [], goes := true, laidByText := true, laidKinds := [.handle], laidTests := true, laidLooks := .later }
def AllCardSaid : Prop := Claim7.holds Tryz.pinned (.plain (OpenSpec.ofChange allSpec)) allCard

/-- THE SECOND FORM's CARD OF 'parapetkeep.Timely'. -/
def timelyUptoCard : Claim7 := { stood := { row := timelyUptoRow, standIns := [], harness := (true, "981e6123a7351ba24562891c5e2a9b983ceb7d0ee9c5e23d0e8a788c82beaf16"), looks := true }, kinds := [], alts := [], goes := true, laidByText := true, laidKinds := [.handle], laidTests := true, laidLooks := .later }
def TimelyUptoCardSaid : Prop := Claim7.holds Tryz.pinned (.plain (OpenSpec.upto timelySpec)) timelyUptoCard

/-- THE SECOND FORM's CARD OF 'parapetkeep.Shifted'. -/
def shiftedUptoCard : Claim7 := { stood := { row := shiftedUptoRow, standIns := [], harness := (true, "981e6123a7351ba24562891c5e2a9b983ceb7d0ee9c5e23d0e8a788c82beaf16"), looks := true }, kinds := [], alts := [], goes := true, laidByText := true, laidKinds := [.handle], laidTests := true, laidLooks := .later }
def ShiftedUptoCardSaid : Prop := Claim7.holds Tryz.pinned (.plain (OpenSpec.upto shiftedSpec)) shiftedUptoCard

/-- THE SECOND FORM's CARD OF 'parapetkeep.Apart'. -/
def apartUptoCard : Claim7 := { stood := { row := apartUptoRow, standIns := [], harness := (true, "981e6123a7351ba24562891c5e2a9b983ceb7d0ee9c5e23d0e8a788c82beaf16"), looks := true }, kinds := [], alts := [], goes := true, laidByText := true, laidKinds := [.handle], laidTests := true, laidLooks := .later }
def ApartUptoCardSaid : Prop := Claim7.holds Tryz.pinned (.plain (OpenSpec.upto apartSpec)) apartUptoCard

/-- THE SECOND FORM's CARD OF 'parapetlaw.All'. -/
def allUptoCard : Claim7 := { stood := { row := allUptoRow, standIns := [], harness := (true, "981e6123a7351ba24562891c5e2a9b983ceb7d0ee9c5e23d0e8a788c82beaf16"), looks := true }, kinds := [], alts := [], goes := true, laidByText := true, laidKinds := [.handle], laidTests := true, laidLooks := .later }
def AllUptoCardSaid : Prop := Claim7.holds Tryz.pinned (.plain (OpenSpec.upto allSpec)) allUptoCard
end Rows
end Go.Proofs.YtobagnjnbmgidabGreatDoor
