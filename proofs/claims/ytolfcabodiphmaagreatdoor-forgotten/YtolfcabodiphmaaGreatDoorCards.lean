/-
  DERIVED. GIVEN WITH THE SEED: THE CARDS: each row of YtolfcabodiphmaaGreatDoorRows.lean that lists a variable, with what it lists TIED to the program's text (the seventh form; the later family's looks); each row that meets fmt, with fmt's text TOLD by the authors' own Lean function (tested against real Go, not proved from fmt's source: count such statements apart). THE CARD IS WHAT COUNTS. Prove the row's statement (the work); the ties are given (YtolfcabodiphmaaGreatDoorTie.lean); close each card by the builder's one call (the guide's Derived/Test/ToyasCard.lean, 'card_holds'). Laid BY PROGRAM, IN A SANDBOX (cutbox-door.mjs). By AI agents, Wed Nov 11 2026. No macro, syntax, notation, axiom, sorry.
-/
import Derived.Test.YtolfcabodiphmaaGreatDoorRows
import GoSem.ClaimSeven
namespace Go.Proofs.YtolfcabodiphmaaGreatDoor
namespace Rows

/-- THE TIED CARD OF 'courierkeep.Forgotten'. -/
def forgottenCard : Claim7 := { stood := { row := forgottenRow, standIns := [], harness := (true, "bc8b77f1cb85ae28025148794f0c4e52f327f4098a52bda97470d72583b144f4"), looks := true }, kinds := [], alts := [], laidByText := true, laidKinds := [.data, .data, .data, .data, .sentinel, .sentinel, .pinned], laidTests := true, laidLooks := .later }
def ForgottenCardSaid : Prop := Claim7.holds Tryz.pinned (.plain (OpenSpec.ofChange forgottenSpec)) forgottenCard

/-- THE SECOND FORM's CARD OF 'courierkeep.Forgotten'. -/
def forgottenUptoCard : Claim7 := { stood := { row := forgottenUptoRow, standIns := [], harness := (true, "bc8b77f1cb85ae28025148794f0c4e52f327f4098a52bda97470d72583b144f4"), looks := true }, kinds := [], alts := [], laidByText := true, laidKinds := [.data, .data, .data, .data, .sentinel, .sentinel, .pinned], laidTests := true, laidLooks := .later }
def ForgottenUptoCardSaid : Prop := Claim7.holds Tryz.pinned (.plain (OpenSpec.upto forgottenSpec)) forgottenUptoCard
end Rows
end Go.Proofs.YtolfcabodiphmaaGreatDoor
