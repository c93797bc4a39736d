/-
  DERIVED. GIVEN WITH THE SEED: THE CARDS: each row of YtcpfepjdeikchaaGreatDoorRows.lean that lists a variable, with what it lists TIED to the program's text (the seventh form; the later family's looks); each row that meets fmt, with fmt's text TOLD by the authors' own Lean function (tested against real Go, not proved from fmt's source: count such statements apart). THE CARD IS WHAT COUNTS. Prove the row's statement (the work); the ties are given (YtcpfepjdeikchaaGreatDoorTie.lean); close each card by the builder's one call (the guide's Derived/Test/ToyasCard.lean, 'card_holds'). Laid BY PROGRAM, IN A SANDBOX (cutbox-door.mjs). By AI agents, Wed Nov 11 2026. No macro, syntax, notation, axiom, sorry.
-/
import Derived.Test.YtcpfepjdeikchaaGreatDoorRows
import GoSem.ClaimSeven
namespace Go.Proofs.YtcpfepjdeikchaaGreatDoor
namespace Rows

/-- THE TIED CARD OF 'fathomlinelaw7.MatParts'. -/
def matPartsCard : Claim7 := { stood := { row := matPartsRow, standIns := [], harness := (true, "4aa1045b7710dc34cf13a0fedaa0488f5f53effee6caf81a1bb441c77c23ead1"), looks := false }, kinds := [], alts := [], laidByText := true, laidKinds := [.data], laidTests := true, laidLooks := .later }
def MatPartsCardSaid : Prop := Claim7.holds Tryz.pinned (.plain (OpenSpec.ofChange matPartsSpec)) matPartsCard

/-- THE TIED CARD OF 'fathomlinelaw7.MatDrawn'. -/
def matDrawnCard : Claim7 := { stood := { row := matDrawnRow, standIns := [], harness := (true, "4aa1045b7710dc34cf13a0fedaa0488f5f53effee6caf81a1bb441c77c23ead1"), looks := false }, kinds := [], alts := [], laidByText := true, laidKinds := [.data], laidTests := true, laidLooks := .later }
def MatDrawnCardSaid : Prop := Claim7.holds Tryz.pinned (.plain (OpenSpec.ofChange matDrawnSpec)) matDrawnCard

/-- THE TIED CARD OF 'fathomlinelaw7.MatHolds'. -/
def matHoldsCard : Claim7 := { stood := { row := matHoldsRow, standIns := [], harness := (true, "4aa1045b7710dc34cf13a0fedaa0488f5f53effee6caf81a1bb441c77c23ead1"), looks := false }, kinds := [], alts := [], laidByText := true, laidKinds := [.data], laidTests := true, laidLooks := .later }
def MatHoldsCardSaid : Prop := Claim7.holds Tryz.pinned (.plain (OpenSpec.ofChange matHoldsSpec)) matHoldsCard

/-- THE TIED CARD OF 'fathomlinelaw7.MatIds'. -/
def matIdsCard : Claim7 := { stood := { row := matIdsRow, standIns := [], harness := (true, "4aa1045b7710dc34cf13a0fedaa0488f5f53effee6caf81a1bb441c77c23ead1"), looks := false }, kinds := [], alts := [], laidByText := true, laidKinds := [.data], laidTests := true, laidLooks := .later }
def MatIdsCardSaid : Prop := Claim7.holds Tryz.pinned (.plain (OpenSpec.ofChange matIdsSpec)) matIdsCard

/-- THE SECOND FORM's CARD OF 'fathomlinelaw7.MatParts'. -/
def matPartsUptoCard : Claim7 := { stood := { row := matPartsUptoRow, standIns := [], harness := (true, "4aa1045b7710dc34cf13a0fedaa0488f5f53effee6caf81a1bb441c77c23ead1"), looks := false }, kinds := [], alts := [], laidByText := true, laidKinds := [.data], laidTests := true, laidLooks := .later }
def MatPartsUptoCardSaid : Prop := Claim7.holds Tryz.pinned (.plain (OpenSpec.upto matPartsSpec)) matPartsUptoCard

/-- THE SECOND FORM's CARD OF 'fathomlinelaw7.MatDrawn'. -/
def matDrawnUptoCard : Claim7 := { stood := { row := matDrawnUptoRow, standIns := [], harness := (true, "4aa1045b7710dc34cf13a0fedaa0488f5f53effee6caf81a1bb441c77c23ead1"), looks := false }, kinds := [], alts := [], laidByText := true, laidKinds := [.data], laidTests := true, laidLooks := .later }
def MatDrawnUptoCardSaid : Prop := Claim7.holds Tryz.pinned (.plain (OpenSpec.upto matDrawnSpec)) matDrawnUptoCard

/-- THE SECOND FORM's CARD OF 'fathomlinelaw7.MatHolds'. -/
def matHoldsUptoCard : Claim7 := { stood := { row := matHoldsUptoRow, standIns := [], harness := (true, "4aa1045b7710dc34cf13a0fedaa0488f5f53effee6caf81a1bb441c77c23ead1"), looks := false }, kinds := [], alts := [], laidByText := true, laidKinds := [.data], laidTests := true, laidLooks := .later }
def MatHoldsUptoCardSaid : Prop := Claim7.holds Tryz.pinned (.plain (OpenSpec.upto matHoldsSpec)) matHoldsUptoCard

/-- THE SECOND FORM's CARD OF 'fathomlinelaw7.MatIds'. -/
def matIdsUptoCard : Claim7 := { stood := { row := matIdsUptoRow, standIns := [], harness := (true, "4aa1045b7710dc34cf13a0fedaa0488f5f53effee6caf81a1bb441c77c23ead1"), looks := false }, kinds := [], alts := [], laidByText := true, laidKinds := [.data], laidTests := true, laidLooks := .later }
def MatIdsUptoCardSaid : Prop := Claim7.holds Tryz.pinned (.plain (OpenSpec.upto matIdsSpec)) matIdsUptoCard
end Rows
end Go.Proofs.YtcpfepjdeikchaaGreatDoor
