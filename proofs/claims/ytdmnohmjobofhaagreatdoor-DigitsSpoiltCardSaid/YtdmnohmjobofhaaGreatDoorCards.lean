/-
  DERIVED. GIVEN WITH THE SEED: THE CARDS: each row of YtdmnohmjobofhaaGreatDoorRows.lean that lists a variable, with what it lists TIED to the program's text (the seventh form; the later family's looks); each row that meets fmt, with fmt's text TOLD by the authors' own Lean function (tested against real Go, not proved from fmt's source: count such statements apart). THE CARD IS WHAT COUNTS. Prove the row's statement (the work); the ties are given (YtdmnohmjobofhaaGreatDoorTie.lean); close each card by the builder's one call (the guide's Derived/Test/ToyasCard.lean, 'card_holds'). Laid BY PROGRAM, IN A SANDBOX (cutbox-door.mjs). By AI agents, Wed Nov 11 2026. No macro, syntax, notation, axiom, sorry.
-/
import Derived.Test.YtdmnohmjobofhaaGreatDoorRows
import GoSem.ClaimSeven
namespace Go.Proofs.YtdmnohmjobofhaaGreatDoor
namespace Rows

/-- THE TIED CARD OF 'fathomlinelaw4.DigitsShow'. -/
def digitsShowCard : Claim7 := { stood := { row := digitsShowRow, standIns := [], harness := (true, "84dd754a8b96bad8a329a594c596d83cac90254576bd37a8a8fd5d7289ed9fa4"), looks := true }, kinds := [], alts := [], laidByText := true, laidKinds := [.data, .data, .data, .sentinel, .sentinel], laidTests := true, laidLooks := .later }
def DigitsShowCardSaid : Prop := Claim7.holds Tryz.pinned (.plain (OpenSpec.ofChange digitsShowSpec)) digitsShowCard

/-- THE TIED CARD OF 'fathomlinelaw4.DigitsRead'. -/
def digitsReadCard : Claim7 := { stood := { row := digitsReadRow, standIns := [], harness := (true, "84dd754a8b96bad8a329a594c596d83cac90254576bd37a8a8fd5d7289ed9fa4"), looks := true }, kinds := [], alts := [], laidByText := true, laidKinds := [.data, .data, .data, .sentinel, .sentinel], laidTests := true, laidLooks := .later }
def DigitsReadCardSaid : Prop := Claim7.holds Tryz.pinned (.plain (OpenSpec.ofChange digitsReadSpec)) digitsReadCard

/-- THE TIED CARD OF 'fathomlinelaw4.DigitsBack'. -/
def digitsBackCard : Claim7 := { stood := { row := digitsBackRow, standIns := [], harness := (true, "84dd754a8b96bad8a329a594c596d83cac90254576bd37a8a8fd5d7289ed9fa4"), looks := true }, kinds := [], alts := [], laidByText := true, laidKinds := [.data, .data, .data, .sentinel, .sentinel], laidTests := true, laidLooks := .later }
def DigitsBackCardSaid : Prop := Claim7.holds Tryz.pinned (.plain (OpenSpec.ofChange digitsBackSpec)) digitsBackCard

/-- THE TIED CARD OF 'fathomlinelaw4.DigitsSpoilt'. -/
def digitsSpoiltCard : Claim7 := { stood := { row := digitsSpoiltRow, standIns := [], harness := (true, "84dd754a8b96bad8a329a594c596d83cac90254576bd37a8a8fd5d7289ed9fa4"), looks := true }, kinds := [], alts := [], laidByText := true, laidKinds := [.data, .data, .data, .sentinel, .sentinel], laidTests := true, laidLooks := .later }
def DigitsSpoiltCardSaid : Prop := Claim7.holds Tryz.pinned (.plain (OpenSpec.ofChange digitsSpoiltSpec)) digitsSpoiltCard

/-- THE SECOND FORM's CARD OF 'fathomlinelaw4.DigitsShow'. -/
def digitsShowUptoCard : Claim7 := { stood := { row := digitsShowUptoRow, standIns := [], harness := (true, "84dd754a8b96bad8a329a594c596d83cac90254576bd37a8a8fd5d7289ed9fa4"), looks := true }, kinds := [], alts := [], laidByText := true, laidKinds := [.data, .data, .data, .sentinel, .sentinel], laidTests := true, laidLooks := .later }
def DigitsShowUptoCardSaid : Prop := Claim7.holds Tryz.pinned (.plain (OpenSpec.upto digitsShowSpec)) digitsShowUptoCard

/-- THE SECOND FORM's CARD OF 'fathomlinelaw4.DigitsRead'. -/
def digitsReadUptoCard : Claim7 := { stood := { row := digitsReadUptoRow, standIns := [], harness := (true, "84dd754a8b96bad8a329a594c596d83cac90254576bd37a8a8fd5d7289ed9fa4"), looks := true }, kinds := [], alts := [], laidByText := true, laidKinds := [.data, .data, .data, .sentinel, .sentinel], laidTests := true, laidLooks := .later }
def DigitsReadUptoCardSaid : Prop := Claim7.holds Tryz.pinned (.plain (OpenSpec.upto digitsReadSpec)) digitsReadUptoCard

/-- THE SECOND FORM's CARD OF 'fathomlinelaw4.DigitsBack'. -/
def digitsBackUptoCard : Claim7 := { stood := { row := digitsBackUptoRow, standIns := [], harness := (true, "84dd754a8b96bad8a329a594c596d83cac90254576bd37a8a8fd5d7289ed9fa4"), looks := true }, kinds := [], alts := [], laidByText := true, laidKinds := [.data, .data, .data, .sentinel, .sentinel], laidTests := true, laidLooks := .later }
def DigitsBackUptoCardSaid : Prop := Claim7.holds Tryz.pinned (.plain (OpenSpec.upto digitsBackSpec)) digitsBackUptoCard

/-- THE SECOND FORM's CARD OF 'fathomlinelaw4.DigitsSpoilt'. -/
def digitsSpoiltUptoCard : Claim7 := { stood := { row := digitsSpoiltUptoRow, standIns := [], harness := (true, "84dd754a8b96bad8a329a594c596d83cac90254576bd37a8a8fd5d7289ed9fa4"), looks := true }, kinds := [], alts := [], laidByText := true, laidKinds := [.data, .data, .data, .sentinel, .sentinel], laidTests := true, laidLooks := .later }
def DigitsSpoiltUptoCardSaid : Prop := Claim7.holds Tryz.pinned (.plain (OpenSpec.upto digitsSpoiltSpec)) digitsSpoiltUptoCard
end Rows
end Go.Proofs.YtdmnohmjobofhaaGreatDoor
