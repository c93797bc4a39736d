/-
  DERIVED. GIVEN WITH THE SEED: THE CARDS: each row of YtpacpmmdjmnamaaGreatDoorRows.lean that lists a variable, with what it lists TIED to the program's text (the seventh form; the later family's looks); each row that meets fmt, with fmt's text TOLD by the authors' own Lean function (tested against real Go, not proved from fmt's source: count such statements apart). THE CARD IS WHAT COUNTS. Prove the row's statement (the work); the ties are given (YtpacpmmdjmnamaaGreatDoorTie.lean); close each card by the builder's one call (the guide's Derived/Test/ToyasCard.lean, 'card_holds'). Laid BY PROGRAM, IN A SANDBOX (cutbox-door.mjs). By AI agents, Wed Nov 11 2026. No macro, syntax, notation, axiom, sorry.
-/
import Derived.Test.YtpacpmmdjmnamaaGreatDoorRows
import GoSem.ClaimSeven
namespace Go.Proofs.YtpacpmmdjmnamaaGreatDoor
namespace Rows

/-- THE TIED CARD OF 'fathomlinelaw7.MatDrawn'. -/
def matDrawnCard : Claim7 := { stood := { row := matDrawnRow, standIns := [], harness := (true, "62a3dfb0fa80cf366a381b6eb91972a5df5b57a1c2246170d7c2c77689037573"), looks := false }, kinds := [], alts := [], laidByText := true, laidKinds := [.data], laidTests := true, laidLooks := .later }
def MatDrawnCardSaid : Prop := Claim7.holds Tryz.pinned (.plain (OpenSpec.ofChange matDrawnSpec)) matDrawnCard

/-- THE TIED CARD OF 'fathomlinelaw9.OrthoAny'. -/
def orthoAnyCard : Claim7 := { stood := { row := orthoAnyRow, standIns := [], harness := (true, "62a3dfb0fa80cf366a381b6eb91972a5df5b57a1c2246170d7c2c77689037573"), looks := false }, kinds := [], alts := [], laidByText := true, laidKinds := [.data], laidTests := true, laidLooks := .later }
def OrthoAnyCardSaid : Prop := Claim7.holds Tryz.pinned (.plain (OpenSpec.ofChange orthoAnySpec)) orthoAnyCard

/-- THE TIED CARD OF 'fathomlinelaw9.OrthoDrawn'. -/
def orthoDrawnCard : Claim7 := { stood := { row := orthoDrawnRow, standIns := [], harness := (true, "62a3dfb0fa80cf366a381b6eb91972a5df5b57a1c2246170d7c2c77689037573"), looks := false }, kinds := [], alts := [], laidByText := true, laidKinds := [.data], laidTests := true, laidLooks := .later }
def OrthoDrawnCardSaid : Prop := Claim7.holds Tryz.pinned (.plain (OpenSpec.ofChange orthoDrawnSpec)) orthoDrawnCard

/-- THE SECOND FORM's CARD OF 'fathomlinelaw7.MatDrawn'. -/
def matDrawnUptoCard : Claim7 := { stood := { row := matDrawnUptoRow, standIns := [], harness := (true, "62a3dfb0fa80cf366a381b6eb91972a5df5b57a1c2246170d7c2c77689037573"), looks := false }, kinds := [], alts := [], laidByText := true, laidKinds := [.data], laidTests := true, laidLooks := .later }
def MatDrawnUptoCardSaid : Prop := Claim7.holds Tryz.pinned (.plain (OpenSpec.upto matDrawnSpec)) matDrawnUptoCard

/-- THE SECOND FORM's CARD OF 'fathomlinelaw9.OrthoAny'. -/
def orthoAnyUptoCard : Claim7 := { stood := { row := orthoAnyUptoRow, standIns := [], harness := (true, "62a3dfb0fa80cf366a381b6eb91972a5df5b57a1c2246170d7c2c77689037573"), looks := false }, kinds := [], alts := [], laidByText := true, laidKinds := [.data], laidTests := true, laidLooks := .later }
def OrthoAnyUptoCardSaid : Prop := Claim7.holds Tryz.pinned (.plain (OpenSpec.upto orthoAnySpec)) orthoAnyUptoCard

/-- THE SECOND FORM's CARD OF 'fathomlinelaw9.OrthoDrawn'. -/
def orthoDrawnUptoCard : Claim7 := { stood := { row := orthoDrawnUptoRow, standIns := [], harness := (true, "62a3dfb0fa80cf366a381b6eb91972a5df5b57a1c2246170d7c2c77689037573"), looks := false }, kinds := [], alts := [], laidByText := true, laidKinds := [.data], laidTests := true, laidLooks := .later }
def OrthoDrawnUptoCardSaid : Prop := Claim7.holds Tryz.pinned (.plain (OpenSpec.upto orthoDrawnSpec)) orthoDrawnUptoCard
end Rows
end Go.Proofs.YtpacpmmdjmnamaaGreatDoor
