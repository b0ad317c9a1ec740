/-
  DERIVED. GIVEN WITH THE SEED: THE CARDS: each row of YtjnmpejcegmkhaaGreatDoorRows.lean that lists a variable, with what it lists TIED to the program's text (the seventh form; the later family's looks); each row that meets fmt, with fmt's text TOLD by the authors' own Lean function (tested against real Go, not proved from fmt's source: count such statements apart). THE CARD IS WHAT COUNTS. Prove the row's statement (the work); the ties are given (YtjnmpejcegmkhaaGreatDoorTie.lean); close each card by the builder's one call (the guide's Derived/Test/ToyasCard.lean, 'card_holds'). Laid BY PROGRAM, IN A SANDBOX (cutbox-door.mjs). By AI agents, Wed Nov 11 2026. No macro, syntax, notation, axiom, sorry.
-/
import Derived.Test.YtjnmpejcegmkhaaGreatDoorRows
import GoSem.ClaimSeven
namespace Go.Proofs.YtjnmpejcegmkhaaGreatDoor
namespace Rows

/-- THE TIED CARD OF 'prismlaw.Plays'. -/
def playsCard : Claim7 := { stood := { row := playsRow, standIns := [], harness := (true, "de2f8c5ca2b878ddbc53ca3bfe36cd2301590370a62715c5d3d654189fe805d2"), looks := false }, kinds := [], alts := [], laidByText := true, laidKinds := [.data, .data, .data], laidTests := true, laidLooks := .later }
def PlaysCardSaid : Prop := Claim7.holds Tryz.pinned (.plain (OpenSpec.ofChange playsSpec)) playsCard

/-- THE SECOND FORM's CARD OF 'prismlaw.Plays'. -/
def playsUptoCard : Claim7 := { stood := { row := playsUptoRow, standIns := [], harness := (true, "de2f8c5ca2b878ddbc53ca3bfe36cd2301590370a62715c5d3d654189fe805d2"), looks := false }, kinds := [], alts := [], laidByText := true, laidKinds := [.data, .data, .data], laidTests := true, laidLooks := .later }
def PlaysUptoCardSaid : Prop := Claim7.holds Tryz.pinned (.plain (OpenSpec.upto playsSpec)) playsUptoCard
end Rows
end Go.Proofs.YtjnmpejcegmkhaaGreatDoor
