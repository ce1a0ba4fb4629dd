/-
  DERIVED. GIVEN WITH THE SEED: THE CARDS: each row of YtgdflaapgfpdeaaDoorRows.lean that lists a variable, with what it lists TIED to the program's text (the seventh form; the later family's looks); each row that meets fmt, with fmt's text TOLD by the authors' own Lean function (tested against real Go, not proved from fmt's source: count such statements apart). THE CARD IS WHAT COUNTS. Prove the row's statement (the work); the ties are given (YtgdflaapgfpdeaaDoorTie.lean); close each card by the builder's one call (the guide's Derived/Test/ToyasCard.lean, 'card_holds'). Laid BY PROGRAM, IN A SANDBOX (cutbox-door.mjs). By AI agents, Wed Nov 11 2026. No macro, syntax, notation, axiom, sorry.
-/
import Derived.Test.YtgdflaapgfpdeaaDoorRows
import GoSem.ClaimSeven
namespace Go.Proofs.YtgdflaapgfpdeaaDoor
namespace Rows

/-- THE TIED CARD OF 'slothlaw14.LatticeSizes'. -/
def latticeSizesCard : Claim7 := { stood := { row := latticeSizesRow, standIns := [], harness := (true, "18fe18a5cd3cdf14cdbf01f137c6ff211bbedc7e8d952aa24ae83d08035e31bd"), looks := false }, kinds := [], alts := [], laidByText := true, laidKinds := [.data, .data, .data], laidTests := true, laidLooks := .later }
def LatticeSizesCardSaid : Prop := Claim7.holds Tryd.pinned (.plain (OpenSpec.ofChange latticeSizesSpec)) latticeSizesCard

/-- THE TIED CARD OF 'slothlaw14.LatticeOrder'. -/
def latticeOrderCard : Claim7 := { stood := { row := latticeOrderRow, standIns := [], harness := (true, "18fe18a5cd3cdf14cdbf01f137c6ff211bbedc7e8d952aa24ae83d08035e31bd"), looks := false }, kinds := [], alts := [], laidByText := true, laidKinds := [.data, .data, .data], laidTests := true, laidLooks := .later }
def LatticeOrderCardSaid : Prop := Claim7.holds Tryd.pinned (.plain (OpenSpec.ofChange latticeOrderSpec)) latticeOrderCard

/-- THE SECOND FORM's CARD OF 'slothlaw14.LatticeSizes'. -/
def latticeSizesUptoCard : Claim7 := { stood := { row := latticeSizesUptoRow, standIns := [], harness := (true, "18fe18a5cd3cdf14cdbf01f137c6ff211bbedc7e8d952aa24ae83d08035e31bd"), looks := false }, kinds := [], alts := [], laidByText := true, laidKinds := [.data, .data, .data], laidTests := true, laidLooks := .later }
def LatticeSizesUptoCardSaid : Prop := Claim7.holds Tryd.pinned (.plain (OpenSpec.upto latticeSizesSpec)) latticeSizesUptoCard

/-- THE SECOND FORM's CARD OF 'slothlaw14.LatticeOrder'. -/
def latticeOrderUptoCard : Claim7 := { stood := { row := latticeOrderUptoRow, standIns := [], harness := (true, "18fe18a5cd3cdf14cdbf01f137c6ff211bbedc7e8d952aa24ae83d08035e31bd"), looks := false }, kinds := [], alts := [], laidByText := true, laidKinds := [.data, .data, .data], laidTests := true, laidLooks := .later }
def LatticeOrderUptoCardSaid : Prop := Claim7.holds Tryd.pinned (.plain (OpenSpec.upto latticeOrderSpec)) latticeOrderUptoCard
end Rows
end Go.Proofs.YtgdflaapgfpdeaaDoor
