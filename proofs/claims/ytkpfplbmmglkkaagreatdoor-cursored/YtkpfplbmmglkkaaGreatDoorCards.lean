/-
  DERIVED. GIVEN WITH THE SEED: THE CARDS: each row of YtkpfplbmmglkkaaGreatDoorRows.lean that lists a variable, with what it lists TIED to the program's text (the seventh form; the later family's looks); each row that meets fmt, with fmt's text TOLD by the authors' own Lean function (tested against real Go, not proved from fmt's source: count such statements apart). THE CARD IS WHAT COUNTS. Prove the row's statement (the work); the ties are given (YtkpfplbmmglkkaaGreatDoorTie.lean); close each card by the builder's one call (the guide's Derived/Test/ToyasCard.lean, 'card_holds'). Laid BY PROGRAM, IN A SANDBOX (cutbox-door.mjs). By AI agents, Wed Nov 11 2026. No macro, syntax, notation, axiom, sorry.
-/
import Derived.Test.YtkpfplbmmglkkaaGreatDoorRows
import GoSem.ClaimSeven
namespace Go.Proofs.YtkpfplbmmglkkaaGreatDoor
namespace Rows

/-- THE TIED CARD OF 'courierkeep.Cursored'. -/
def cursoredCard : Claim7 := { stood := { row := cursoredRow, standIns := [], harness := (true, "7a2248117a4dc8bdb4b2949a47c26f0a39749efc9beb427fcac574410b0b2a3a"), looks := true }, kinds := [], alts := [], laidByText := true, laidKinds := [.data, .data, .data, .data, .sentinel, .sentinel, .pinned], laidTests := true, laidLooks := .later }
def CursoredCardSaid : Prop := Claim7.holds Tryz.pinned (.plain (OpenSpec.ofChange cursoredSpec)) cursoredCard

/-- THE SECOND FORM's CARD OF 'courierkeep.Cursored'. -/
def cursoredUptoCard : Claim7 := { stood := { row := cursoredUptoRow, standIns := [], harness := (true, "7a2248117a4dc8bdb4b2949a47c26f0a39749efc9beb427fcac574410b0b2a3a"), looks := true }, kinds := [], alts := [], laidByText := true, laidKinds := [.data, .data, .data, .data, .sentinel, .sentinel, .pinned], laidTests := true, laidLooks := .later }
def CursoredUptoCardSaid : Prop := Claim7.holds Tryz.pinned (.plain (OpenSpec.upto cursoredSpec)) cursoredUptoCard
end Rows
end Go.Proofs.YtkpfplbmmglkkaaGreatDoor
