/-
  DERIVED. GIVEN WITH THE SEED: THE CARDS: each row of YtopgbggighaknaaDoorRows.lean that lists a variable, with what it lists TIED to the program's text (the seventh form; the later family's looks); each row that meets fmt, with fmt's text TOLD by the authors' own Lean function (tested against real Go, not proved from fmt's source: count such statements apart). THE CARD IS WHAT COUNTS. Prove the row's statement (the work); the ties are given (YtopgbggighaknaaDoorTie.lean); close each card by the builder's one call (the guide's Derived/Test/ToyasCard.lean, 'card_holds'). Laid BY PROGRAM, IN A SANDBOX (cutbox-door.mjs). By AI agents, Wed Nov 11 2026. No macro, syntax, notation, axiom, sorry.
-/
import Derived.Test.YtopgbggighaknaaDoorRows
import GoSem.ClaimSeven
namespace Go.Proofs.YtopgbggighaknaaDoor
namespace Rows

/-- THE TIED CARD OF 'selionlaw05.KindsAll'. -/
def kindsAllCard : Claim7 := { stood := { row := kindsAllRow, standIns := [], harness := (true, "629d2ef356724ea44185a8ef2ad5f8e66c22e5db58855fbd41606130c41ca1c8"), looks := true }, kinds := [], alts := [], laidByText := true, laidKinds := [.data, .data, .data, .handle, .sentinel, .sentinel, .sentinel, .sentinel, .sentinel, .sentinel, .sentinel], laidTests := true, laidLooks := .later }
def KindsAllCardSaid : Prop := Claim7.holds Tryd.pinned (.plain (OpenSpec.ofChange kindsAllSpec)) kindsAllCard

/-- THE SECOND FORM's CARD OF 'selionlaw05.KindsAll'. -/
def kindsAllUptoCard : Claim7 := { stood := { row := kindsAllUptoRow, standIns := [], harness := (true, "629d2ef356724ea44185a8ef2ad5f8e66c22e5db58855fbd41606130c41ca1c8"), looks := true }, kinds := [], alts := [], laidByText := true, laidKinds := [.data, .data, .data, .handle, .sentinel, .sentinel, .sentinel, .sentinel, .sentinel, .sentinel, .sentinel], laidTests := true, laidLooks := .later }
def KindsAllUptoCardSaid : Prop := Claim7.holds Tryd.pinned (.plain (OpenSpec.upto kindsAllSpec)) kindsAllUptoCard
end Rows
end Go.Proofs.YtopgbggighaknaaDoor
