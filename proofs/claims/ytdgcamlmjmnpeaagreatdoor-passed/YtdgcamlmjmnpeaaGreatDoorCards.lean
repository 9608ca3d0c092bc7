/-
  DERIVED. GIVEN WITH THE SEED: THE CARDS: each row of YtdgcamlmjmnpeaaGreatDoorRows.lean that lists a variable, with what it lists TIED to the program's text (the seventh form; the later family's looks); each row that meets fmt, with fmt's text TOLD by the authors' own Lean function (tested against real Go, not proved from fmt's source: count such statements apart). THE CARD IS WHAT COUNTS. Prove the row's statement (the work); the ties are given (YtdgcamlmjmnpeaaGreatDoorTie.lean); close each card by the builder's one call (the guide's Derived/Test/ToyasCard.lean, 'card_holds'). Laid BY PROGRAM, IN A SANDBOX (cutbox-door.mjs). By AI agents, Wed Nov 11 2026. No macro, syntax, notation, axiom, sorry.
-/
import Derived.Test.YtdgcamlmjmnpeaaGreatDoorRows
import GoSem.ClaimSeven
namespace Go.Proofs.YtdgcamlmjmnpeaaGreatDoor
namespace Rows

/-- THE TIED CARD OF 'courierkeep.Built'. -/
def builtCard : Claim7 := { stood := { row := builtRow, standIns := [], harness := (true, "d4581b651a54874990fa05e55a72919309cb5def13a7077c4f84961299705740"), looks := true }, kinds := [], alts := [], laidByText := true, laidKinds := [.data, .data, .data, .data, .sentinel, .sentinel, .pinned], laidTests := true, laidLooks := .later }
def BuiltCardSaid : Prop := Claim7.holds Tryz.pinned (.plain (OpenSpec.ofChange builtSpec)) builtCard

/-- THE TIED CARD OF 'courierkeep.Passed'. -/
def passedCard : Claim7 := { stood := { row := passedRow, standIns := [], harness := (true, "d4581b651a54874990fa05e55a72919309cb5def13a7077c4f84961299705740"), looks := true }, kinds := [], alts := [], laidByText := true, laidKinds := [.data, .data, .data, .data, .sentinel, .sentinel, .pinned], laidTests := true, laidLooks := .later }
def PassedCardSaid : Prop := Claim7.holds Tryz.pinned (.plain (OpenSpec.ofChange passedSpec)) passedCard

/-- THE TIED CARD OF 'courierlaw.Decodes'. -/
def decodesCard : Claim7 := { stood := { row := decodesRow, standIns := [], harness := (true, "d4581b651a54874990fa05e55a72919309cb5def13a7077c4f84961299705740"), looks := true }, kinds := [], alts := [], laidByText := true, laidKinds := [.data, .data, .data, .data, .sentinel, .sentinel, .pinned], laidTests := true, laidLooks := .later }
def DecodesCardSaid : Prop := Claim7.holds Tryz.pinned (.plain (OpenSpec.ofChange decodesSpec)) decodesCard

/-- THE SECOND FORM's CARD OF 'courierkeep.Built'. -/
def builtUptoCard : Claim7 := { stood := { row := builtUptoRow, standIns := [], harness := (true, "d4581b651a54874990fa05e55a72919309cb5def13a7077c4f84961299705740"), looks := true }, kinds := [], alts := [], laidByText := true, laidKinds := [.data, .data, .data, .data, .sentinel, .sentinel, .pinned], laidTests := true, laidLooks := .later }
def BuiltUptoCardSaid : Prop := Claim7.holds Tryz.pinned (.plain (OpenSpec.upto builtSpec)) builtUptoCard

/-- THE SECOND FORM's CARD OF 'courierkeep.Passed'. -/
def passedUptoCard : Claim7 := { stood := { row := passedUptoRow, standIns := [], harness := (true, "d4581b651a54874990fa05e55a72919309cb5def13a7077c4f84961299705740"), looks := true }, kinds := [], alts := [], laidByText := true, laidKinds := [.data, .data, .data, .data, .sentinel, .sentinel, .pinned], laidTests := true, laidLooks := .later }
def PassedUptoCardSaid : Prop := Claim7.holds Tryz.pinned (.plain (OpenSpec.upto passedSpec)) passedUptoCard

/-- THE SECOND FORM's CARD OF 'courierlaw.Decodes'. -/
def decodesUptoCard : Claim7 := { stood := { row := decodesUptoRow, standIns := [], harness := (true, "d4581b651a54874990fa05e55a72919309cb5def13a7077c4f84961299705740"), looks := true }, kinds := [], alts := [], laidByText := true, laidKinds := [.data, .data, .data, .data, .sentinel, .sentinel, .pinned], laidTests := true, laidLooks := .later }
def DecodesUptoCardSaid : Prop := Claim7.holds Tryz.pinned (.plain (OpenSpec.upto decodesSpec)) decodesUptoCard
end Rows
end Go.Proofs.YtdgcamlmjmnpeaaGreatDoor
