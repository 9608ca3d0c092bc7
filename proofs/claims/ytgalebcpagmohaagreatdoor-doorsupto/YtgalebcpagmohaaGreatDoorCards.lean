/-
  DERIVED. GIVEN WITH THE SEED: THE CARDS: each row of YtgalebcpagmohaaGreatDoorRows.lean that lists a variable, with what it lists TIED to the program's text (the seventh form; the later family's looks); each row that meets fmt, with fmt's text TOLD by the authors' own Lean function (tested against real Go, not proved from fmt's source: count such statements apart). THE CARD IS WHAT COUNTS. Prove the row's statement (the work); the ties are given (YtgalebcpagmohaaGreatDoorTie.lean); close each card by the builder's one call (the guide's Derived/Test/ToyasCard.lean, 'card_holds'). Laid BY PROGRAM, IN A SANDBOX (cutbox-door.mjs). By AI agents, Wed Nov 11 2026. No macro, syntax, notation, axiom, sorry.
-/
import Derived.Test.YtgalebcpagmohaaGreatDoorRows
import GoSem.ClaimSeven
namespace Go.Proofs.YtgalebcpagmohaaGreatDoor
namespace Rows

/-- THE TIED CARD OF 'courierlaw.Doors'. -/
def doorsCard : Claim7 := { stood := { row := doorsRow, standIns := [], harness := (true, "fc29c4c5bc3a944f49b084218102e3a01796aa1925becc6d9aaf560e61cad2dc"), looks := true }, kinds := [], alts := [], laidByText := true, laidKinds := [.data, .data, .data, .data, .sentinel, .sentinel, .pinned], laidTests := true, laidLooks := .later }
def DoorsCardSaid : Prop := Claim7.holds Tryz.pinned (.plain (OpenSpec.ofChange doorsSpec)) doorsCard

/-- THE SECOND FORM's CARD OF 'courierlaw.Doors'. -/
def doorsUptoCard : Claim7 := { stood := { row := doorsUptoRow, standIns := [], harness := (true, "fc29c4c5bc3a944f49b084218102e3a01796aa1925becc6d9aaf560e61cad2dc"), looks := true }, kinds := [], alts := [], laidByText := true, laidKinds := [.data, .data, .data, .data, .sentinel, .sentinel, .pinned], laidTests := true, laidLooks := .later }
def DoorsUptoCardSaid : Prop := Claim7.holds Tryz.pinned (.plain (OpenSpec.upto doorsSpec)) doorsUptoCard
end Rows
end Go.Proofs.YtgalebcpagmohaaGreatDoor
