/-
  DERIVED. GIVEN WITH THE SEED: THE CARDS: each row of YthcejnpknjepfaaGreatDoorRows.lean that lists a variable, with what it lists TIED to the program's text (the seventh form; the later family's looks); each row that meets fmt, with fmt's text TOLD by the authors' own Lean function (tested against real Go, not proved from fmt's source: count such statements apart). THE CARD IS WHAT COUNTS. Prove the row's statement (the work); the ties are given (YthcejnpknjepfaaGreatDoorTie.lean); close each card by the builder's one call (the guide's Derived/Test/ToyasCard.lean, 'card_holds'). Laid BY PROGRAM, IN A SANDBOX (cutbox-door.mjs). By AI agents, Wed Nov 11 2026. No macro, syntax, notation, axiom, sorry.
-/
import Derived.Test.YthcejnpknjepfaaGreatDoorRows
import GoSem.ClaimSeven
namespace Go.Proofs.YthcejnpknjepfaaGreatDoor
namespace Rows

/-- THE TIED CARD OF 'slothlaw05.TypesCanon'. -/
def typesCanonCard : Claim7 := { stood := { row := typesCanonRow, standIns := [], harness := (true, "c8046384ecdef78b8bde6755f528a649c83cb47e8a7f5093fd4af157d9420f82"), looks := false }, kinds := [], alts := [], laidByText := true, laidKinds := [.data, .data, .data], laidTests := true, laidLooks := .later }
def TypesCanonCardSaid : Prop := Claim7.holds Tryz.pinned (.plain (OpenSpec.ofChange typesCanonSpec)) typesCanonCard

/-- THE TIED CARD OF 'slothlaw05.TypesOne'. -/
def typesOneCard : Claim7 := { stood := { row := typesOneRow, standIns := [], harness := (true, "c8046384ecdef78b8bde6755f528a649c83cb47e8a7f5093fd4af157d9420f82"), looks := false }, kinds := [], alts := [], laidByText := true, laidKinds := [.data, .data, .data], laidTests := true, laidLooks := .later }
def TypesOneCardSaid : Prop := Claim7.holds Tryz.pinned (.plain (OpenSpec.ofChange typesOneSpec)) typesOneCard

/-- THE SECOND FORM's CARD OF 'slothlaw05.TypesCanon'. -/
def typesCanonUptoCard : Claim7 := { stood := { row := typesCanonUptoRow, standIns := [], harness := (true, "c8046384ecdef78b8bde6755f528a649c83cb47e8a7f5093fd4af157d9420f82"), looks := false }, kinds := [], alts := [], laidByText := true, laidKinds := [.data, .data, .data], laidTests := true, laidLooks := .later }
def TypesCanonUptoCardSaid : Prop := Claim7.holds Tryz.pinned (.plain (OpenSpec.upto typesCanonSpec)) typesCanonUptoCard

/-- THE SECOND FORM's CARD OF 'slothlaw05.TypesOne'. -/
def typesOneUptoCard : Claim7 := { stood := { row := typesOneUptoRow, standIns := [], harness := (true, "c8046384ecdef78b8bde6755f528a649c83cb47e8a7f5093fd4af157d9420f82"), looks := false }, kinds := [], alts := [], laidByText := true, laidKinds := [.data, .data, .data], laidTests := true, laidLooks := .later }
def TypesOneUptoCardSaid : Prop := Claim7.holds Tryz.pinned (.plain (OpenSpec.upto typesOneSpec)) typesOneUptoCard
end Rows
end Go.Proofs.YthcejnpknjepfaaGreatDoor
