/-
  DERIVED. GIVEN WITH THE SEED: THE CARDS: each row of YtgmpcinlkiiboaaGreatDoorRows.lean that lists a variable, with what it lists TIED to the program's text (the seventh form; the later family's looks); each row that meets fmt, with fmt's text TOLD by the authors' own Lean function (tested against real Go, not proved from fmt's source: count such statements apart). THE CARD IS WHAT COUNTS. Prove the row's statement (the work); the ties are given (YtgmpcinlkiiboaaGreatDoorTie.lean); close each card by the builder's one call (the guide's Derived/Test/ToyasCard.lean, 'card_holds'). Laid BY PROGRAM, IN A SANDBOX (cutbox-door.mjs). By AI agents, Wed Nov 11 2026. No macro, syntax, notation, axiom, sorry.
-/
import Derived.Test.YtgmpcinlkiiboaaGreatDoorRows
import GoSem.ClaimSeven
namespace Go.Proofs.YtgmpcinlkiiboaaGreatDoor
namespace Rows

/-- THE TIED CARD OF 'selionlaw04.DescTexts'. -/
def descTextsCard : Claim7 := { stood := { row := descTextsRow, standIns := [], harness := (true, "3fbf9832a69c150ff7aaa63defe1199ca9ca6433a01f280900ee979d0081e2c4"), looks := true }, kinds := [], alts := [], laidByText := true, laidKinds := [.data, .data, .data, .handle, .data, .sentinel, .sentinel, .sentinel, .sentinel, .sentinel, .sentinel], laidTests := true, laidLooks := .later }
def DescTextsCardSaid : Prop := Claim7.holds Tryz.pinned (.plain (OpenSpec.ofChange descTextsSpec)) descTextsCard

/-- THE SECOND FORM's CARD OF 'selionlaw04.DescTexts'. -/
def descTextsUptoCard : Claim7 := { stood := { row := descTextsUptoRow, standIns := [], harness := (true, "3fbf9832a69c150ff7aaa63defe1199ca9ca6433a01f280900ee979d0081e2c4"), looks := true }, kinds := [], alts := [], laidByText := true, laidKinds := [.data, .data, .data, .handle, .data, .sentinel, .sentinel, .sentinel, .sentinel, .sentinel, .sentinel], laidTests := true, laidLooks := .later }
def DescTextsUptoCardSaid : Prop := Claim7.holds Tryz.pinned (.plain (OpenSpec.upto descTextsSpec)) descTextsUptoCard
end Rows
end Go.Proofs.YtgmpcinlkiiboaaGreatDoor
